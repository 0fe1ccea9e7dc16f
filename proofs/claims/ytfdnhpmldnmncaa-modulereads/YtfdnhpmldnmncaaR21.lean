/-
  The walk of value, and with it of every value that the reader meets; conditions: the weight so far is at most 2048, the form's own reach.
  The walk of value, and with it of every value that the reader meets; conditions: the weight so far is at most 2048, the form's own reach.
-/
import Derived.Test.YtfdnhpmldnmncaaR20
namespace Go.Proofs.Ytfdnhpmldnmncaa
open Go.RowKit

def rdTag (zs : List Int) (d a t : Nat) : Except (Int × Int) Int :=
  match zs[a]? with
  | none => .error (41, (a : Int))
  | some c => if 6 < c then .error (41, (a : Int)) else if d = 0 then .error (42, (a : Int)) else if 2048 < t + 1 then .error (42, (a : Int)) else .ok c

def ResT (gr : Nat) (bv : Value) (a t : Nat) (w : World) (r : Except (Int × Int) Int) (e : Ending) (w' : World) : Prop :=
  match r with
  | .error p => e = fault p.1 p.2 ∧ Beside gr w w'
  | .ok c => e = .returned (.int .u8 c) ∧ Rdr w' gr bv ((a + 1 : Nat) : Int) ((t + 1 : Nat) : Int) ∧ Beside gr w w'

theorem tag_res (zs : List Int) (d a t gr : Nat) (ao : Option Addr) (len cap : Nat) (w : World) (h : Rdr w gr (.slice ao len cap) a t) (hS : Src w gr ao len cap zs) (ha : a ≤ len) (ht : t ≤ 2048) (hd : d ≤ 8) :
    Calls Try.prog 83 #[.pointer (some ⟨gr, 0, none⟩), .int .i64 (8 - (d : Int))] w fun e w' => ResT gr (.slice ao len cap) a t w (rdTag zs d a t) e w' := by
  unfold rdTag
  cases hc : zs[a]? with
  | none =>
    have hl : len ≤ a := by rw [← hS.row.length]; exact List.getElem?_eq_none_iff.1 hc
    have e : a = len := by omega
    subst e
    exact tag_end gr ao a cap t _ w h (Nat.le_trans hS.row.le hS.cap)
  | some c =>
    dsimp only
    by_cases c6 : 6 < c
    · rw [if_pos c6]
      exact tag_wrong gr ao len cap a c t _ zs w h hS hc c6
    · rw [if_neg c6]
      by_cases hd0 : d = 0
      · rw [if_pos hd0]
        exact tag_deep gr ao len cap a c t _ zs w h hS hc c6 (by omega)
      · rw [if_neg hd0]
        by_cases hh : 2048 < t + 1
        · rw [if_pos hh]
          exact tag_heavy gr ao len cap a c t _ zs w h hS hc c6 (by omega) (by omega) (by omega)
        · rw [if_neg hh]
          refine (tag_ok gr ao len cap a c t _ zs w h hS hc c6 (by omega) (by omega) (by omega)).mono fun e w' ⟨he, r, b⟩ => ⟨he, ?_, b⟩
          rw [show ((t + 1 : Nat) : Int) = (t : Int) + 1 by omega]
          exact r

theorem rdV_tag_error {zs : List Int} {d a t : Nat} {p : Int × Int} (h : rdTag zs d a t = .error p) : rdV zs d a t = .error p := by
  unfold rdTag at h
  cases d with
  | zero =>
    simp only [rdV]
    cases hc : zs[a]? with
    | none => rw [hc] at h; cases h; rfl
    | some c =>
      rw [hc] at h
      simp only at h ⊢
      by_cases c6 : 6 < c
      · rw [if_pos c6] at h ⊢; cases h; rfl
      · rw [if_neg c6] at h ⊢; simp only [if_true] at h; cases h; rfl
  | succ d =>
    simp only [rdV]
    cases hc : zs[a]? with
    | none => rw [hc] at h; cases h; rfl
    | some c =>
      rw [hc] at h
      simp only at h ⊢
      by_cases c6 : 6 < c
      · rw [if_pos c6] at h ⊢; cases h; rfl
      · rw [if_neg c6] at h ⊢
        rw [if_neg (by omega)] at h
        by_cases hh : 2048 < t + 1
        · rw [if_pos hh] at h ⊢; cases h; rfl
        · rw [if_neg hh] at h; cases h

theorem rdV_tag_ok {zs : List Int} {d a t : Nat} {c : Int} (hl : ∀ n ∈ zs, 0 ≤ n ∧ n ≤ 255) (h : rdTag zs d a t = .ok c) : a < zs.length ∧ t + 1 ≤ 2048 ∧ 0 ≤ c ∧ c ≤ 6 ∧ ∃ e, d = e + 1 ∧ rdV zs d a t =
    if c = 1 then .ok (.mk 1 0 ⟨#[]⟩ [] [], a + 1, t + 1) else if c = 2 then .ok (.mk 1 1 ⟨#[]⟩ [] [], a + 1, t + 1)
      else if c = 3 then rdNum zs (a + 1) (t + 1) else if c = 4 then rdTxt zs a (a + 1) (t + 1)
      else if c = 5 then rdAll zs (rdV zs e) a (a + 1) (t + 1) else if c = 6 then rdPairs zs (rdV zs e) a (a + 1) (t + 1)
      else .ok (.mk 0 0 ⟨#[]⟩ [] [], a + 1, t + 1) := by
  unfold rdTag at h
  cases hc : zs[a]? with
  | none => rw [hc] at h; cases h
  | some x =>
    rw [hc] at h
    simp only at h
    have hx := hl x (List.mem_of_getElem? hc)
    have hlt := (List.getElem?_eq_some_iff.1 hc).1
    by_cases c6 : 6 < x
    · rw [if_pos c6] at h; cases h
    rw [if_neg c6] at h
    by_cases hd : d = 0
    · rw [if_pos hd] at h; cases h
    rw [if_neg hd] at h
    by_cases hh : 2048 < t + 1
    · rw [if_pos hh] at h; cases h
    rw [if_neg hh] at h
    cases h
    refine ⟨hlt, by omega, hx.1, by omega, d - 1, by omega, ?_⟩
    obtain ⟨e, rfl⟩ : ∃ e, d = e + 1 := ⟨d - 1, by omega⟩
    simp only [rdV, hc, Nat.add_sub_cancel]
    rw [if_neg c6, if_neg hh]

/-- the value is laid into its variable -/
theorem store_end {w u : World} {gr g : Nat} {bv : Value} {Z0 Z1 Z2 Z3 Z4 : Value} {v : Vl} (x0 x1 x2 x3 x4 : Value) {p t : Nat} (h0 : u.heap[g]? = some (.cells #[Z0, Z1, Z2, Z3, Z4] 51 (0, 0))) (hb : Beside gr w u) (hg : w.heap.size = g) (hr : gr < g) (hR : Rdr u gr bv p t)
    (hI : ∀ u' : World, u'.heap.size = u.heap.size → (∀ c, c ≠ g → u'.heap[c]? = u.heap[c]?) → u'.heap[g]? = some (.cells #[x0, x1, x2, x3, x4] 51 (0, 0)) → IsQ u' (fun c => g ≤ c ∧ c < u'.heap.size) v (.agg #[x0, x1, x2, x3, x4])) :
    Res gr bv w (.ok (v, p, t)) (.returned (.agg #[x0, x1, x2, x3, x4])) (((((u.setCell ⟨g, 0, none⟩ x0).setCell ⟨g, 1, none⟩ x1).setCell ⟨g, 2, none⟩ x2).setCell ⟨g, 3, none⟩ x3).setCell ⟨g, 4, none⟩ x4) ∧
    (((((u.setCell ⟨g, 0, none⟩ x0).setCell ⟨g, 1, none⟩ x1).setCell ⟨g, 2, none⟩ x2).setCell ⟨g, 3, none⟩ x3).setCell ⟨g, 4, none⟩ x4).heap[g]? = some (.cells #[x0, x1, x2, x3, x4] 51 (0, 0)) := by
  have R9 := five_set u g 51 _ _ _ _ _ x0 x1 x2 x3 x4 h0
  have O9 := fun c hc => five_other u g c x0 x1 x2 x3 x4 hc
  have B9 := five_below (Below.refl g u) (Nat.le_refl g) x0 x1 x2 x3 x4
  have S9 : (((((u.setCell ⟨g, 0, none⟩ x0).setCell ⟨g, 1, none⟩ x1).setCell ⟨g, 2, none⟩ x2).setCell ⟨g, 3, none⟩ x3).setCell ⟨g, 4, none⟩ x4).heap.size = u.heap.size := by simp
  generalize (((((u.setCell ⟨g, 0, none⟩ x0).setCell ⟨g, 1, none⟩ x1).setCell ⟨g, 2, none⟩ x2).setCell ⟨g, 3, none⟩ x3).setCell ⟨g, 4, none⟩ x4) = w9 at *
  refine ⟨⟨_, rfl, ?_, (O9 gr (by omega)).trans hR, B9.os.trans hb.os, B9.tape.trans hb.tape, B9.output.trans hb.output, Nat.le_trans hb.size B9.size, fun k hk hn => (O9 k (by omega)).trans (hb.block k hk hn)⟩, R9⟩
  rw [hg]
  exact hI w9 S9 O9 R9

theorem plain_made {u : World} {g : Nat} {k n : Int} {s : ByteArray} (h : u.heap[g]? = some (.cells #[.int .i64 k, .int .i64 n, .string s, .slice none 0 0, .slice none 0 0] 51 (0, 0))) (bk : 0 ≤ k ∧ k ≤ 5) (bn : -9223372036854775808 ≤ n ∧ n ≤ 9223372036854775807) (bs : s.size ≤ 2048) :
    IsQ u (fun c => g ≤ c ∧ c < u.heap.size) (.mk k n s [] []) (.agg #[.int .i64 k, .int .i64 n, .string s, .slice none 0 0, .slice none 0 0]) := by
  have M : Mid u (g + 1) g k n s [] [] (.slice none 0 0) (.slice none 0 0) 0 0 (fun _ => []) := ⟨h, by omega, (Array.getElem?_eq_some_iff.1 h).1, World.ownsRow_nil _ _ _ _, World.ownsRow_nil _ _ _ _, Or.inl rfl, fun c h => by omega, fun c y h => by omega⟩
  exact (M.made rfl rfl (by omega) bn (by omega) (by simp) (by simp) (by simp)).weak (fun c hP => ⟨by omega, hP.2⟩)
end Go.Proofs.Ytfdnhpmldnmncaa

namespace Go.Proofs.Ytfdnhpmldnmncaa
open Go.RowKit

def ResN (gr : Nat) (bv : Value) (w : World) (r : Except (Int × Int) (Vl × Nat × Nat)) (e : Ending) (w' : World) : Prop :=
  match r with
  | .error p => e = fault p.1 p.2 ∧ Beside gr w w'
  | .ok (v, a', t') => ∃ n, v = .mk 2 n ⟨#[]⟩ [] [] ∧ e = .returned (.int .i64 n) ∧ (-9223372036854775808 ≤ n ∧ n ≤ 9223372036854775807) ∧ Rdr w' gr bv a' t' ∧ Beside gr w w'

theorem number_res (zs : List Int) (a t gr : Nat) (ao : Option Addr) (len cap : Nat) (w : World) (h : Rdr w gr (.slice ao len cap) a t) (hS : Src w gr ao len cap zs) :
    Calls Try.prog 84 #[.pointer (some ⟨gr, 0, none⟩)] w fun e w' => ResN gr (.slice ao len cap) w (rdNum zs a t) e w' := by
  cases hc : rdNum zs a t with
  | error p =>
    unfold rdNum at hc
    by_cases h0 : (intOfU (uintAt zs a)).2.2 ≠ 0
    · rw [if_pos h0] at hc
      cases hc
      exact number_bad gr ao len cap a t zs w h hS _ _ _ rfl h0
    · rw [if_neg h0] at hc; cases hc
  | ok p =>
    obtain ⟨v, a', t'⟩ := p
    obtain ⟨n, rfl, rfl, _, _, hn, _, e0⟩ := num_form hS.row.small hc
    exact (number_ok gr ao len cap a t' zs w h hS n a' e0).mono fun e w' ⟨he, r, b⟩ => ⟨n, rfl, he, hn, r, b⟩

def ResX (gr : Nat) (bv : Value) (w : World) (r : Except (Int × Int) (Vl × Nat × Nat)) (e : Ending) (w' : World) : Prop :=
  match r with
  | .error p => e = fault p.1 p.2 ∧ Beside gr w w'
  | .ok (v, a', t') => ∃ s, v = .mk 3 0 s [] [] ∧ e = .returned (.string s) ∧ s.size ≤ 2048 ∧ Rdr w' gr bv a' t' ∧ Beside gr w w'

theorem text_res (zs : List Int) (q a t gr : Nat) (ao : Option Addr) (len cap : Nat) (w : World) (h : Rdr w gr (.slice ao len cap) a t) (hS : Src w gr ao len cap zs) (ht : t ≤ 2048) :
    Calls Try.prog 85 #[.pointer (some ⟨gr, 0, none⟩), .int .i64 q] w fun e w' => ResX gr (.slice ao len cap) w (rdTxt zs q a t) e w' := by
  cases hc : rdTxt zs q a t with
  | error p =>
    unfold rdTxt at hc
    by_cases h13 : (textOfU zs (2048 - (t : Int)) (uintAt zs a)).2.2 = 13
    · rw [if_pos h13] at hc
      cases hc
      exact text_long gr ao len cap a t q zs w h hS (by omega) (textOfU zs (2048 - (t : Int)) (uintAt zs a)).1 (textOfU zs (2048 - (t : Int)) (uintAt zs a)).2.1 (by rw [← h13])
    · rw [if_neg h13] at hc
      by_cases h0 : (textOfU zs (2048 - (t : Int)) (uintAt zs a)).2.2 ≠ 0
      · rw [if_pos h0] at hc
        cases hc
        exact text_bad gr ao len cap a t q zs w h hS (by omega) _ _ _ rfl h13 h0
      · rw [if_neg h0] at hc; cases hc
  | ok p =>
    obtain ⟨v, a', t'⟩ := p
    obtain ⟨s, rfl, rfl, _, _, _, _, e0, hs⟩ := txt_form hS.row.small ht hc
    refine (text_ok gr ao len cap a t q zs w h hS (by omega) s a' e0 hs).mono fun e w' ⟨he, r, b⟩ => ⟨s, rfl, he, by omega, ?_, b⟩
    rw [show ((t + s.size : Nat) : Int) = (t : Int) + (s.size : Int) by omega]
    exact r

set_option maxRecDepth 100000 in
set_option maxHeartbeats 1000000 in
theorem val_step (zs : List Int) (d : Nat) (ih : ∀ e, d = e + 1 → ValAt zs e) : ValAt zs d := by
  intro gr ao len cap a t w h hS ha ht hd
  obtain ⟨g, hg⟩ : ∃ g, w.heap.size = g := ⟨_, rfl⟩
  have hrg : gr < g := by have := h.lt; omega
  have hsm := hS.row.small
  have hB1 : Below w.heap.size w (w.alloc (.cells #[.int .i64 0, .int .i64 0, .string ⟨#[]⟩, .slice none 0 0, .slice none 0 0] 51)) := (Below.refl _ _).alloc (Nat.le_refl _) _
  have at1 : (w.alloc (.cells #[.int .i64 0, .int .i64 0, .string ⟨#[]⟩, .slice none 0 0, .slice none 0 0] 51)).heap[g]? = some (.cells #[.int .i64 0, .int .i64 0, .string ⟨#[]⟩, .slice none 0 0, .slice none 0 0] 51 (0, 0)) := by rw [← hg]; exact heap_alloc_new w _
  obtain ⟨w1, hw1⟩ : ∃ w1, w.alloc (.cells #[.int .i64 0, .int .i64 0, .string ⟨#[]⟩, .slice none 0 0, .slice none 0 0] 51) = w1 := ⟨_, rfl⟩
  rw [hw1] at hB1 at1
  have R1 : Rdr w1 gr (.slice ao len cap) a t := (hB1.block gr h.lt).trans h
  have S1 := hS.later (Beside.of_below (gr := gr) hB1)
  have z1 : g < w1.heap.size := (Array.getElem?_eq_some_iff.1 at1).1
  obtain ⟨c0, c1, c2, f1, f2⟩ := R1.cells
  have CT := hide (tag_res zs d a t gr ao len cap w1 R1 S1 ha ht hd)
  have HS : Hid (∀ u, Beside gr w1 u → Beside gr w u ∧ Src u gr ao len cap zs ∧ u.heap[g]? = some (.cells #[.int .i64 0, .int .i64 0, .string ⟨#[]⟩, .slice none 0 0, .slice none 0 0] 51 (0, 0)) ∧ g < u.heap.size) := hide (fun u hu => ⟨(Beside.of_below hB1).trans hu, S1.later hu, (hu.block g z1 (by omega)).trans at1, Nat.lt_of_lt_of_le z1 hu.size⟩)
  clear h hS hB1 at1 R1 S1 z1
  cases hT : rdTag zs d a t with
  | error p =>
    rw [rdV_tag_error hT]
    rw [hT] at CT
    clear hT ih hsm
    go_enter Try.func78, Try.ntmps78
    go_wp2_with fail
    refine (unhide CT).mono ?_
    rintro e u ⟨rfl, b1⟩
    unfold fault
    go_wp2_with fail
    exact ⟨rfl, rfl, (unhide HS u b1).1⟩
  | ok c =>
    obtain ⟨hal, ht1, k0, k6, d', rfl, hrd⟩ := rdV_tag_ok hsm hT
    rw [hT] at CT
    have IH := hide (ih d' rfl)
    have HSM := hide hsm
    clear hT ih hsm
    rcases (show c = 0 ∨ c = 1 ∨ c = 2 ∨ c = 3 ∨ c = 4 ∨ c = 5 ∨ c = 6 by omega) with rfl | rfl | rfl | rfl | rfl | rfl | rfl
    · have hr : rdV zs (d' + 1) a t = .ok (.mk 0 0 ⟨#[]⟩ [] [], a + 1, t + 1) := by simpa using hrd
      rw [hr]
      clear hrd hr
      go_enter Try.func78, Try.ntmps78
      go_wp2_with fail
      refine (unhide CT).mono ?_
      rintro e u ⟨rfl, r1, b1⟩
      obtain ⟨B, S, at0, zg⟩ := unhide HS u b1
      obtain ⟨z0, z1, z2, z3, z4⟩ := row_cell at0
      have fz0 := frozen_of_row u g 0 _ _ at0
      have fz1 := frozen_of_row u g 1 _ _ at0
      have fz2 := frozen_of_row u g 2 _ _ at0
      have fz3 := frozen_of_row u g 3 _ _ at0
      have fz4 := frozen_of_row u g 4 _ _ at0
      have H1 := hide (And.intro r1 (And.intro B at0))
      clear r1 b1 B S at0 zg CT HS IH hw1 c0 c1 c2 f1 f2
      go_wp2_with fail
      obtain ⟨E1, E2⟩ := store_end (v := .mk 0 0 ⟨#[]⟩ [] []) (.int .i64 0) (.int .i64 0) (.string ⟨#[]⟩) (.slice none 0 0) (.slice none 0 0) (unhide H1).2.2 (unhide H1).2.1 hg hrg (unhide H1).1 (fun u' _ _ h => plain_made h (by omega) (by omega) (by rw [e0s]; omega))
      obtain ⟨r0, r1, r2, r3, r4⟩ := row_cell E2
      exact bodyPost_ret (by simp [results, Try.results78, go_sem, r0, r1, r2, r3, r4]) rfl E1
    · have hr : rdV zs (d' + 1) a t = .ok (.mk 1 0 ⟨#[]⟩ [] [], a + 1, t + 1) := by simpa using hrd
      rw [hr]
      clear hrd hr
      go_enter Try.func78, Try.ntmps78
      go_wp2_with fail
      refine (unhide CT).mono ?_
      rintro e u ⟨rfl, r1, b1⟩
      obtain ⟨B, S, at0, zg⟩ := unhide HS u b1
      obtain ⟨z0, z1, z2, z3, z4⟩ := row_cell at0
      have fz0 := frozen_of_row u g 0 _ _ at0
      have fz1 := frozen_of_row u g 1 _ _ at0
      have fz2 := frozen_of_row u g 2 _ _ at0
      have fz3 := frozen_of_row u g 3 _ _ at0
      have fz4 := frozen_of_row u g 4 _ _ at0
      have H1 := hide (And.intro r1 (And.intro B at0))
      clear r1 b1 B S at0 zg CT HS IH hw1 c0 c1 c2 f1 f2
      go_wp2_with fail
      obtain ⟨E1, E2⟩ := store_end (v := .mk 1 0 ⟨#[]⟩ [] []) (.int .i64 1) (.int .i64 0) (.string ⟨#[]⟩) (.slice none 0 0) (.slice none 0 0) (unhide H1).2.2 (unhide H1).2.1 hg hrg (unhide H1).1 (fun u' _ _ h => plain_made h (by omega) (by omega) (by rw [e0s]; omega))
      obtain ⟨r0, r1, r2, r3, r4⟩ := row_cell E2
      exact bodyPost_ret (by simp [results, Try.results78, go_sem, r0, r1, r2, r3, r4]) rfl E1
    · have hr : rdV zs (d' + 1) a t = .ok (.mk 1 1 ⟨#[]⟩ [] [], a + 1, t + 1) := by simpa using hrd
      rw [hr]
      clear hrd hr
      go_enter Try.func78, Try.ntmps78
      go_wp2_with fail
      refine (unhide CT).mono ?_
      rintro e u ⟨rfl, r1, b1⟩
      obtain ⟨B, S, at0, zg⟩ := unhide HS u b1
      obtain ⟨z0, z1, z2, z3, z4⟩ := row_cell at0
      have fz0 := frozen_of_row u g 0 _ _ at0
      have fz1 := frozen_of_row u g 1 _ _ at0
      have fz2 := frozen_of_row u g 2 _ _ at0
      have fz3 := frozen_of_row u g 3 _ _ at0
      have fz4 := frozen_of_row u g 4 _ _ at0
      have H1 := hide (And.intro r1 (And.intro B at0))
      clear r1 b1 B S at0 zg CT HS IH hw1 c0 c1 c2 f1 f2
      go_wp2_with fail
      obtain ⟨E1, E2⟩ := store_end (v := .mk 1 1 ⟨#[]⟩ [] []) (.int .i64 1) (.int .i64 1) (.string ⟨#[]⟩) (.slice none 0 0) (.slice none 0 0) (unhide H1).2.2 (unhide H1).2.1 hg hrg (unhide H1).1 (fun u' _ _ h => plain_made h (by omega) (by omega) (by rw [e0s]; omega))
      obtain ⟨r0, r1, r2, r3, r4⟩ := row_cell E2
      exact bodyPost_ret (by simp [results, Try.results78, go_sem, r0, r1, r2, r3, r4]) rfl E1
    · have hr : rdV zs (d' + 1) a t = rdNum zs (a + 1) (t + 1) := by simpa using hrd
      rw [hr]
      clear hrd hr
      go_enter Try.func78, Try.ntmps78
      go_wp2_with fail
      refine (unhide CT).mono ?_
      rintro e u ⟨rfl, r1, b1⟩
      obtain ⟨B, S, at0, zg⟩ := unhide HS u b1
      have CN := hide (number_res zs (a + 1) (t + 1) gr ao len cap u r1 S)
      have H1 := hide (And.intro B (And.intro at0 zg))
      clear r1 b1 B S at0 zg CT HS IH hw1 c0 c1 c2 f1 f2
      cases hv : rdNum zs (a + 1) (t + 1) with
      | error p =>
        rw [hv] at CN
        have HV := hide hv
        clear hv
        go_wp2_with fail
        refine (unhide CN).mono ?_
        rintro e u2 ⟨rfl, b2⟩
        unfold fault
        go_wp2_with fail
        refine ⟨rfl, ?_⟩
        show Res _ _ _ _ _ _
        rw [unhide HV]
        exact ⟨rfl, (unhide H1).1.trans b2⟩
      | ok vp =>
        obtain ⟨v, a', t'⟩ := vp
        rw [hv] at CN
        have HV := hide hv
        clear hv
        go_wp2_with fail
        refine (unhide CN).mono ?_
        rintro e u2 ⟨n, rfl, rfl, hn, r2, b2⟩
        obtain ⟨B, at0, zg⟩ := unhide H1
        have at2 := (b2.block g zg (by omega)).trans at0
        obtain ⟨z0, z1, z2, z3, z4⟩ := row_cell at2
        have fz0 := frozen_of_row u2 g 0 _ _ at2
        have fz1 := frozen_of_row u2 g 1 _ _ at2
        have fz2 := frozen_of_row u2 g 2 _ _ at2
        have fz3 := frozen_of_row u2 g 3 _ _ at2
        have fz4 := frozen_of_row u2 g 4 _ _ at2
        have H2 := hide (And.intro r2 (And.intro (B.trans b2) at2))
        clear r2 b2 B at0 zg at2 H1 CN
        go_wp2_with fail
        obtain ⟨E1, E2⟩ := store_end (v := .mk 2 n ⟨#[]⟩ [] []) (.int .i64 2) (.int .i64 n) (.string ⟨#[]⟩) (.slice none 0 0) (.slice none 0 0) (unhide H2).2.2 (unhide H2).2.1 hg hrg (unhide H2).1 (fun u' _ _ h => plain_made h (by omega) hn (by rw [e0s]; omega))
        obtain ⟨r0, r1, r2, r3, r4⟩ := row_cell E2
        refine bodyPost_ret (v := .agg #[.int .i64 2, .int .i64 n, .string ⟨#[]⟩, .slice none 0 0, .slice none 0 0]) (by simp [results, Try.results78, go_sem, r0, r1, r2, r3, r4]) rfl ?_
        show Res _ _ _ _ _ _
        rw [unhide HV]
        exact E1
    · have hr : rdV zs (d' + 1) a t = rdTxt zs a (a + 1) (t + 1) := by simpa using hrd
      rw [hr]
      clear hrd hr
      go_enter Try.func78, Try.ntmps78
      go_wp2_with fail
      refine (unhide CT).mono ?_
      rintro e u ⟨rfl, r1, b1⟩
      obtain ⟨B, S, at0, zg⟩ := unhide HS u b1
      have CN := hide (text_res zs a (a + 1) (t + 1) gr ao len cap u r1 S ht1)
      have H1 := hide (And.intro B (And.intro at0 zg))
      clear r1 b1 B S at0 zg CT HS IH hw1 c0 c1 c2 f1 f2
      cases hv : rdTxt zs a (a + 1) (t + 1) with
      | error p =>
        rw [hv] at CN
        have HV := hide hv
        clear hv
        go_wp2_with fail
        refine (unhide CN).mono ?_
        rintro e u2 ⟨rfl, b2⟩
        unfold fault
        go_wp2_with fail
        refine ⟨rfl, ?_⟩
        show Res _ _ _ _ _ _
        rw [unhide HV]
        exact ⟨rfl, (unhide H1).1.trans b2⟩
      | ok vp =>
        obtain ⟨v, a', t'⟩ := vp
        rw [hv] at CN
        have HV := hide hv
        clear hv
        go_wp2_with fail
        refine (unhide CN).mono ?_
        rintro e u2 ⟨s, rfl, rfl, hs, r2, b2⟩
        obtain ⟨B, at0, zg⟩ := unhide H1
        have at2 := (b2.block g zg (by omega)).trans at0
        obtain ⟨z0, z1, z2, z3, z4⟩ := row_cell at2
        have fz0 := frozen_of_row u2 g 0 _ _ at2
        have fz1 := frozen_of_row u2 g 1 _ _ at2
        have fz2 := frozen_of_row u2 g 2 _ _ at2
        have fz3 := frozen_of_row u2 g 3 _ _ at2
        have fz4 := frozen_of_row u2 g 4 _ _ at2
        have H2 := hide (And.intro r2 (And.intro (B.trans b2) at2))
        clear r2 b2 B at0 zg at2 H1 CN
        go_wp2_with fail
        obtain ⟨E1, E2⟩ := store_end (v := .mk 3 0 s [] []) (.int .i64 3) (.int .i64 0) (.string s) (.slice none 0 0) (.slice none 0 0) (unhide H2).2.2 (unhide H2).2.1 hg hrg (unhide H2).1 (fun u' _ _ h => plain_made h (by omega) (by omega) hs)
        obtain ⟨r0, r1, r2, r3, r4⟩ := row_cell E2
        refine bodyPost_ret (v := .agg #[.int .i64 3, .int .i64 0, .string s, .slice none 0 0, .slice none 0 0]) (by simp [results, Try.results78, go_sem, r0, r1, r2, r3, r4]) rfl ?_
        show Res _ _ _ _ _ _
        rw [unhide HV]
        exact E1
    · have hr : rdV zs (d' + 1) a t = rdAll zs (rdV zs d') a (a + 1) (t + 1) := by simpa using hrd
      rw [hr]
      clear hrd hr
      go_enter Try.func78, Try.ntmps78
      go_wp2_with fail
      refine (unhide CT).mono ?_
      rintro e u ⟨rfl, r1, b1⟩
      obtain ⟨B, S, at0, zg⟩ := unhide HS u b1
      have CN := hide (array_any zs d' (unhide IH) gr ao len cap a (a + 1) (t + 1) u r1 S ht1 hd)
      have H1 := hide (And.intro B (And.intro at0 zg))
      clear r1 b1 B S at0 zg CT HS IH hw1 c0 c1 c2 f1 f2
      cases hv : rdAll zs (rdV zs d') a (a + 1) (t + 1) with
      | error p =>
        rw [hv] at CN
        have HV := hide hv
        clear hv
        go_wp2_with fail
        refine (unhide CN).mono ?_
        rintro e u2 ⟨rfl, b2⟩
        unfold fault
        go_wp2_with fail
        refine ⟨rfl, ?_⟩
        show Res _ _ _ _ _ _
        rw [unhide HV]
        exact ⟨rfl, (unhide H1).1.trans b2⟩
      | ok vp =>
        obtain ⟨v, a', t'⟩ := vp
        rw [hv] at CN
        have HV := hide hv
        clear hv
        go_wp2_with fail
        refine (unhide CN).mono ?_
        rintro e u2 ⟨x2, rfl, p2, r2, b2⟩
        obtain ⟨k5, n5, s5, l5, ks5, al5, ak5, cl5, ck5, hy5, rfl⟩ := p2.shape
        clear hy5
        obtain ⟨lc5, hlc5⟩ : ∃ lc5, l5.length = lc5 := ⟨_, rfl⟩
        obtain ⟨mc5, hmc5⟩ : ∃ mc5, ks5.length = mc5 := ⟨_, rfl⟩
        rw [hlc5, hmc5] at p2 ⊢
        clear hlc5 hmc5
        obtain ⟨B, at0, zg⟩ := unhide H1
        have at2 := (b2.block g zg (by omega)).trans at0
        obtain ⟨z0, z1, z2, z3, z4⟩ := row_cell at2
        have fz0 := frozen_of_row u2 g 0 _ _ at2
        have fz1 := frozen_of_row u2 g 1 _ _ at2
        have fz2 := frozen_of_row u2 g 2 _ _ at2
        have fz3 := frozen_of_row u2 g 3 _ _ at2
        have fz4 := frozen_of_row u2 g 4 _ _ at2
        have H2 := hide (And.intro r2 (And.intro (B.trans b2) (And.intro at2 (And.intro p2 zg))))
        clear r2 b2 B at0 zg at2 H1 CN p2
        go_wp2_with fail
        obtain ⟨E1, E2⟩ := store_end (v := v) (.int .i64 k5) (.int .i64 n5) (.string s5) (.slice al5 lc5 cl5) (.slice ak5 mc5 ck5) (unhide H2).2.2.1 (unhide H2).2.1 hg hrg (unhide H2).1 (fun u' hs ho _ => ((unhide H2).2.2.2.1.move (fun c hc => ho c (by have := (unhide H2).2.2.2.2; have := hc.1; omega))).weak (fun c hc => ⟨by have := (unhide H2).2.2.2.2; have := hc.1; omega, by rw [hs]; exact hc.2⟩))
        obtain ⟨r0, r1, r2, r3, r4⟩ := row_cell E2
        refine bodyPost_ret (v := .agg #[.int .i64 k5, .int .i64 n5, .string s5, .slice al5 lc5 cl5, .slice ak5 mc5 ck5]) (by simp [results, Try.results78, go_sem, r0, r1, r2, r3, r4]) rfl ?_
        show Res _ _ _ _ _ _
        rw [unhide HV]
        exact E1
    · have hr : rdV zs (d' + 1) a t = rdPairs zs (rdV zs d') a (a + 1) (t + 1) := by simpa using hrd
      rw [hr]
      clear hrd hr
      go_enter Try.func78, Try.ntmps78
      go_wp2_with fail
      refine (unhide CT).mono ?_
      rintro e u ⟨rfl, r1, b1⟩
      obtain ⟨B, S, at0, zg⟩ := unhide HS u b1
      have CN := hide (record_any zs d' (unhide IH) gr ao len cap a (a + 1) (t + 1) u r1 S ht1 hd)
      have H1 := hide (And.intro B (And.intro at0 zg))
      clear r1 b1 B S at0 zg CT HS IH hw1 c0 c1 c2 f1 f2
      cases hv : rdPairs zs (rdV zs d') a (a + 1) (t + 1) with
      | error p =>
        rw [hv] at CN
        have HV := hide hv
        clear hv
        go_wp2_with fail
        refine (unhide CN).mono ?_
        rintro e u2 ⟨rfl, b2⟩
        unfold fault
        go_wp2_with fail
        refine ⟨rfl, ?_⟩
        show Res _ _ _ _ _ _
        rw [unhide HV]
        exact ⟨rfl, (unhide H1).1.trans b2⟩
      | ok vp =>
        obtain ⟨v, a', t'⟩ := vp
        rw [hv] at CN
        have HV := hide hv
        clear hv
        go_wp2_with fail
        refine (unhide CN).mono ?_
        rintro e u2 ⟨x2, rfl, p2, r2, b2⟩
        obtain ⟨k5, n5, s5, l5, ks5, al5, ak5, cl5, ck5, hy5, rfl⟩ := p2.shape
        clear hy5
        obtain ⟨lc5, hlc5⟩ : ∃ lc5, l5.length = lc5 := ⟨_, rfl⟩
        obtain ⟨mc5, hmc5⟩ : ∃ mc5, ks5.length = mc5 := ⟨_, rfl⟩
        rw [hlc5, hmc5] at p2 ⊢
        clear hlc5 hmc5
        obtain ⟨B, at0, zg⟩ := unhide H1
        have at2 := (b2.block g zg (by omega)).trans at0
        obtain ⟨z0, z1, z2, z3, z4⟩ := row_cell at2
        have fz0 := frozen_of_row u2 g 0 _ _ at2
        have fz1 := frozen_of_row u2 g 1 _ _ at2
        have fz2 := frozen_of_row u2 g 2 _ _ at2
        have fz3 := frozen_of_row u2 g 3 _ _ at2
        have fz4 := frozen_of_row u2 g 4 _ _ at2
        have H2 := hide (And.intro r2 (And.intro (B.trans b2) (And.intro at2 (And.intro p2 zg))))
        clear r2 b2 B at0 zg at2 H1 CN p2
        go_wp2_with fail
        obtain ⟨E1, E2⟩ := store_end (v := v) (.int .i64 k5) (.int .i64 n5) (.string s5) (.slice al5 lc5 cl5) (.slice ak5 mc5 ck5) (unhide H2).2.2.1 (unhide H2).2.1 hg hrg (unhide H2).1 (fun u' hs ho _ => ((unhide H2).2.2.2.1.move (fun c hc => ho c (by have := (unhide H2).2.2.2.2; have := hc.1; omega))).weak (fun c hc => ⟨by have := (unhide H2).2.2.2.2; have := hc.1; omega, by rw [hs]; exact hc.2⟩))
        obtain ⟨r0, r1, r2, r3, r4⟩ := row_cell E2
        refine bodyPost_ret (v := .agg #[.int .i64 k5, .int .i64 n5, .string s5, .slice al5 lc5 cl5, .slice ak5 mc5 ck5]) (by simp [results, Try.results78, go_sem, r0, r1, r2, r3, r4]) rfl ?_
        show Res _ _ _ _ _ _
        rw [unhide HV]
        exact E1

theorem val_any (zs : List Int) : ∀ d, ValAt zs d
  | 0 => val_step zs 0 (fun e h => by omega)
  | d + 1 => val_step zs (d + 1) (fun e h => by have : e = d := by omega
                                                rw [this]; exact val_any zs d)
end Go.Proofs.Ytfdnhpmldnmncaa
