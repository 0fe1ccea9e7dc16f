/-
  The walk of value, and with it of every value that the reader meets; conditions: the weight so far is at most 2048, the form's own reach.
-/
import Derived.Test.YtfdnhpmldnmncaaWRdV
namespace Go.Proofs.Ytfdnhpmldnmncaa
open Go.RowKit

def ResN (gr : Nat) (bv : Value) (w : World) (r : Except (Int × Int) (Vl × Nat × Nat)) (e : Ending) (w' : World) : Prop :=
  match r with
  | .error p => e = fault p.1 p.2 ∧ Beside gr w w'
  | .ok (v, a', t') => ∃ n, v = .mk 2 n ⟨#[]⟩ [] [] ∧ e = .returned (.int .i64 n) ∧ (-9223372036854775808 ≤ n ∧ n ≤ 9223372036854775807) ∧ Rdr w' gr bv a' t' ∧ Beside gr w w'

theorem number_res (zs : List Int) (a t gr : Nat) (ao : Option Addr) (len cap : Nat) (w : World) (h : Rdr w gr (.slice ao len cap) a t) (hS : Src w gr ao len cap zs) :
    Calls Try.prog 84 #[.pointer (some ⟨gr, 0, none⟩)] w fun e w' => ResN gr (.slice ao len cap) w (rdNum zs a t) e w' := by
  cases hc : rdNum zs a t with
  | error p =>
    unfold rdNum at hc
    by_cases h0 : (intOfU (uintAt zs a)).2.2 ≠ 0
    · rw [if_pos h0] at hc
      cases hc
      exact number_bad gr ao len cap a t zs w h hS _ _ _ rfl h0
    · rw [if_neg h0] at hc; cases hc
  | ok p =>
    obtain ⟨v, a', t'⟩ := p
    obtain ⟨n, rfl, rfl, _, _, hn, _, e0⟩ := num_form hS.row.small hc
    exact (number_ok gr ao len cap a t' zs w h hS n a' e0).mono fun e w' ⟨he, r, b⟩ => ⟨n, rfl, he, hn, r, b⟩

def ResX (gr : Nat) (bv : Value) (w : World) (r : Except (Int × Int) (Vl × Nat × Nat)) (e : Ending) (w' : World) : Prop :=
  match r with
  | .error p => e = fault p.1 p.2 ∧ Beside gr w w'
  | .ok (v, a', t') => ∃ s, v = .mk 3 0 s [] [] ∧ e = .returned (.string s) ∧ s.size ≤ 2048 ∧ Rdr w' gr bv a' t' ∧ Beside gr w w'

theorem text_res (zs : List Int) (q a t gr : Nat) (ao : Option Addr) (len cap : Nat) (w : World) (h : Rdr w gr (.slice ao len cap) a t) (hS : Src w gr ao len cap zs) (ht : t ≤ 2048) :
    Calls Try.prog 85 #[.pointer (some ⟨gr, 0, none⟩), .int .i64 q] w fun e w' => ResX gr (.slice ao len cap) w (rdTxt zs q a t) e w' := by
  cases hc : rdTxt zs q a t with
  | error p =>
    unfold rdTxt at hc
    by_cases h13 : (textOfU zs (2048 - (t : Int)) (uintAt zs a)).2.2 = 13
    · rw [if_pos h13] at hc
      cases hc
      exact text_long gr ao len cap a t q zs w h hS (by omega) (textOfU zs (2048 - (t : Int)) (uintAt zs a)).1 (textOfU zs (2048 - (t : Int)) (uintAt zs a)).2.1 (by rw [← h13])
    · rw [if_neg h13] at hc
      by_cases h0 : (textOfU zs (2048 - (t : Int)) (uintAt zs a)).2.2 ≠ 0
      · rw [if_pos h0] at hc
        cases hc
        exact text_bad gr ao len cap a t q zs w h hS (by omega) _ _ _ rfl h13 h0
      · rw [if_neg h0] at hc; cases hc
  | ok p =>
    obtain ⟨v, a', t'⟩ := p
    obtain ⟨s, rfl, rfl, _, _, _, _, e0, hs⟩ := txt_form hS.row.small ht hc
    refine (text_ok gr ao len cap a t q zs w h hS (by omega) s a' e0 hs).mono fun e w' ⟨he, r, b⟩ => ⟨s, rfl, he, by omega, ?_, b⟩
    rw [show ((t + s.size : Nat) : Int) = (t : Int) + (s.size : Int) by omega]
    exact r

set_option maxRecDepth 100000 in
set_option maxHeartbeats 1000000 in
theorem val_step (zs : List Int) (d : Nat) (ih : ∀ e, d = e + 1 → ValAt zs e) : ValAt zs d := by
  intro gr ao len cap a t w h hS ha ht hd
  obtain ⟨g, hg⟩ : ∃ g, w.heap.size = g := ⟨_, rfl⟩
  have hrg : gr < g := by have := h.lt; omega
  have hsm := hS.row.small
  have hB1 : Below w.heap.size w (w.alloc (.cells #[.int .i64 0, .int .i64 0, .string ⟨#[]⟩, .slice none 0 0, .slice none 0 0] 51)) := (Below.refl _ _).alloc (Nat.le_refl _) _
  have at1 : (w.alloc (.cells #[.int .i64 0, .int .i64 0, .string ⟨#[]⟩, .slice none 0 0, .slice none 0 0] 51)).heap[g]? = some (.cells #[.int .i64 0, .int .i64 0, .string ⟨#[]⟩, .slice none 0 0, .slice none 0 0] 51 (0, 0)) := by rw [← hg]; exact heap_alloc_new w _
  obtain ⟨w1, hw1⟩ : ∃ w1, w.alloc (.cells #[.int .i64 0, .int .i64 0, .string ⟨#[]⟩, .slice none 0 0, .slice none 0 0] 51) = w1 := ⟨_, rfl⟩
  rw [hw1] at hB1 at1
  have R1 : Rdr w1 gr (.slice ao len cap) a t := (hB1.block gr h.lt).trans h
  have S1 := hS.later (Beside.of_below (gr := gr) hB1)
  have z1 : g < w1.heap.size := (Array.getElem?_eq_some_iff.1 at1).1
  obtain ⟨c0, c1, c2, f1, f2⟩ := R1.cells
  have CT := hide (tag_res zs d a t gr ao len cap w1 R1 S1 ha ht hd)
  have HS : Hid (∀ u, Beside gr w1 u → Beside gr w u ∧ Src u gr ao len cap zs ∧ u.heap[g]? = some (.cells #[.int .i64 0, .int .i64 0, .string ⟨#[]⟩, .slice none 0 0, .slice none 0 0] 51 (0, 0)) ∧ g < u.heap.size) := hide (fun u hu => ⟨(Beside.of_below hB1).trans hu, S1.later hu, (hu.block g z1 (by omega)).trans at1, Nat.lt_of_lt_of_le z1 hu.size⟩)
  clear h hS hB1 at1 R1 S1 z1
  cases hT : rdTag zs d a t with
  | error p =>
    rw [rdV_tag_error hT]
    rw [hT] at CT
    clear hT ih hsm
    go_enter Try.func78, Try.ntmps78
    go_wp2_with fail
    refine (unhide CT).mono ?_
    rintro e u ⟨rfl, b1⟩
    unfold fault
    go_wp2_with fail
    exact ⟨rfl, rfl, (unhide HS u b1).1⟩
  | ok c =>
    obtain ⟨hal, ht1, k0, k6, d', rfl, hrd⟩ := rdV_tag_ok hsm hT
    rw [hT] at CT
    have IH := hide (ih d' rfl)
    have HSM := hide hsm
    clear hT ih hsm
    rcases (show c = 0 ∨ c = 1 ∨ c = 2 ∨ c = 3 ∨ c = 4 ∨ c = 5 ∨ c = 6 by omega) with rfl | rfl | rfl | rfl | rfl | rfl | rfl
    · have hr : rdV zs (d' + 1) a t = .ok (.mk 0 0 ⟨#[]⟩ [] [], a + 1, t + 1) := by simpa using hrd
      rw [hr]
      clear hrd hr
      go_enter Try.func78, Try.ntmps78
      go_wp2_with fail
      refine (unhide CT).mono ?_
      rintro e u ⟨rfl, r1, b1⟩
      obtain ⟨B, S, at0, zg⟩ := unhide HS u b1
      obtain ⟨z0, z1, z2, z3, z4⟩ := row_cell at0
      have fz0 := frozen_of_row u g 0 _ _ at0
      have fz1 := frozen_of_row u g 1 _ _ at0
      have fz2 := frozen_of_row u g 2 _ _ at0
      have fz3 := frozen_of_row u g 3 _ _ at0
      have fz4 := frozen_of_row u g 4 _ _ at0
      have H1 := hide (And.intro r1 (And.intro B at0))
      clear r1 b1 B S at0 zg CT HS IH hw1 c0 c1 c2 f1 f2
      go_wp2_with fail
      obtain ⟨E1, E2⟩ := store_end (v := .mk 0 0 ⟨#[]⟩ [] []) (.int .i64 0) (.int .i64 0) (.string ⟨#[]⟩) (.slice none 0 0) (.slice none 0 0) (unhide H1).2.2 (unhide H1).2.1 hg hrg (unhide H1).1 (fun u' _ _ h => plain_made h (by omega) (by omega) (by rw [e0s]; omega))
      obtain ⟨r0, r1, r2, r3, r4⟩ := row_cell E2
      exact bodyPost_ret (by simp [results, Try.results78, go_sem, r0, r1, r2, r3, r4]) rfl E1
    · have hr : rdV zs (d' + 1) a t = .ok (.mk 1 0 ⟨#[]⟩ [] [], a + 1, t + 1) := by simpa using hrd
      rw [hr]
      clear hrd hr
      go_enter Try.func78, Try.ntmps78
      go_wp2_with fail
      refine (unhide CT).mono ?_
      rintro e u ⟨rfl, r1, b1⟩
      obtain ⟨B, S, at0, zg⟩ := unhide HS u b1
      obtain ⟨z0, z1, z2, z3, z4⟩ := row_cell at0
      have fz0 := frozen_of_row u g 0 _ _ at0
      have fz1 := frozen_of_row u g 1 _ _ at0
      have fz2 := frozen_of_row u g 2 _ _ at0
      have fz3 := frozen_of_row u g 3 _ _ at0
      have fz4 := frozen_of_row u g 4 _ _ at0
      have H1 := hide (And.intro r1 (And.intro B at0))
      clear r1 b1 B S at0 zg CT HS IH hw1 c0 c1 c2 f1 f2
      go_wp2_with fail
      obtain ⟨E1, E2⟩ := store_end (v := .mk 1 0 ⟨#[]⟩ [] []) (.int .i64 1) (.int .i64 0) (.string ⟨#[]⟩) (.slice none 0 0) (.slice none 0 0) (unhide H1).2.2 (unhide H1).2.1 hg hrg (unhide H1).1 (fun u' _ _ h => plain_made h (by omega) (by omega) (by rw [e0s]; omega))
      obtain ⟨r0, r1, r2, r3, r4⟩ := row_cell E2
      exact bodyPost_ret (by simp [results, Try.results78, go_sem, r0, r1, r2, r3, r4]) rfl E1
    · have hr : rdV zs (d' + 1) a t = .ok (.mk 1 1 ⟨#[]⟩ [] [], a + 1, t + 1) := by simpa using hrd
      rw [hr]
      clear hrd hr
      go_enter Try.func78, Try.ntmps78
      go_wp2_with fail
      refine (unhide CT).mono ?_
      rintro e u ⟨rfl, r1, b1⟩
      obtain ⟨B, S, at0, zg⟩ := unhide HS u b1
      obtain ⟨z0, z1, z2, z3, z4⟩ := row_cell at0
      have fz0 := frozen_of_row u g 0 _ _ at0
      have fz1 := frozen_of_row u g 1 _ _ at0
      have fz2 := frozen_of_row u g 2 _ _ at0
      have fz3 := frozen_of_row u g 3 _ _ at0
      have fz4 := frozen_of_row u g 4 _ _ at0
      have H1 := hide (And.intro r1 (And.intro B at0))
      clear r1 b1 B S at0 zg CT HS IH hw1 c0 c1 c2 f1 f2
      go_wp2_with fail
      obtain ⟨E1, E2⟩ := store_end (v := .mk 1 1 ⟨#[]⟩ [] []) (.int .i64 1) (.int .i64 1) (.string ⟨#[]⟩) (.slice none 0 0) (.slice none 0 0) (unhide H1).2.2 (unhide H1).2.1 hg hrg (unhide H1).1 (fun u' _ _ h => plain_made h (by omega) (by omega) (by rw [e0s]; omega))
      obtain ⟨r0, r1, r2, r3, r4⟩ := row_cell E2
      exact bodyPost_ret (by simp [results, Try.results78, go_sem, r0, r1, r2, r3, r4]) rfl E1
    · have hr : rdV zs (d' + 1) a t = rdNum zs (a + 1) (t + 1) := by simpa using hrd
      rw [hr]
      clear hrd hr
      go_enter Try.func78, Try.ntmps78
      go_wp2_with fail
      refine (unhide CT).mono ?_
      rintro e u ⟨rfl, r1, b1⟩
      obtain ⟨B, S, at0, zg⟩ := unhide HS u b1
      have CN := hide (number_res zs (a + 1) (t + 1) gr ao len cap u r1 S)
      have H1 := hide (And.intro B (And.intro at0 zg))
      clear r1 b1 B S at0 zg CT HS IH hw1 c0 c1 c2 f1 f2
      cases hv : rdNum zs (a + 1) (t + 1) with
      | error p =>
        rw [hv] at CN
        have HV := hide hv
        clear hv
        go_wp2_with fail
        refine (unhide CN).mono ?_
        rintro e u2 ⟨rfl, b2⟩
        unfold fault
        go_wp2_with fail
        refine ⟨rfl, ?_⟩
        show Res _ _ _ _ _ _
        rw [unhide HV]
        exact ⟨rfl, (unhide H1).1.trans b2⟩
      | ok vp =>
        obtain ⟨v, a', t'⟩ := vp
        rw [hv] at CN
        have HV := hide hv
        clear hv
        go_wp2_with fail
        refine (unhide CN).mono ?_
        rintro e u2 ⟨n, rfl, rfl, hn, r2, b2⟩
        obtain ⟨B, at0, zg⟩ := unhide H1
        have at2 := (b2.block g zg (by omega)).trans at0
        obtain ⟨z0, z1, z2, z3, z4⟩ := row_cell at2
        have fz0 := frozen_of_row u2 g 0 _ _ at2
        have fz1 := frozen_of_row u2 g 1 _ _ at2
        have fz2 := frozen_of_row u2 g 2 _ _ at2
        have fz3 := frozen_of_row u2 g 3 _ _ at2
        have fz4 := frozen_of_row u2 g 4 _ _ at2
        have H2 := hide (And.intro r2 (And.intro (B.trans b2) at2))
        clear r2 b2 B at0 zg at2 H1 CN
        go_wp2_with fail
        obtain ⟨E1, E2⟩ := store_end (v := .mk 2 n ⟨#[]⟩ [] []) (.int .i64 2) (.int .i64 n) (.string ⟨#[]⟩) (.slice none 0 0) (.slice none 0 0) (unhide H2).2.2 (unhide H2).2.1 hg hrg (unhide H2).1 (fun u' _ _ h => plain_made h (by omega) hn (by rw [e0s]; omega))
        obtain ⟨r0, r1, r2, r3, r4⟩ := row_cell E2
        refine bodyPost_ret (v := .agg #[.int .i64 2, .int .i64 n, .string ⟨#[]⟩, .slice none 0 0, .slice none 0 0]) (by simp [results, Try.results78, go_sem, r0, r1, r2, r3, r4]) rfl ?_
        show Res _ _ _ _ _ _
        rw [unhide HV]
        exact E1
    · have hr : rdV zs (d' + 1) a t = rdTxt zs a (a + 1) (t + 1) := by simpa using hrd
      rw [hr]
      clear hrd hr
      go_enter Try.func78, Try.ntmps78
      go_wp2_with fail
      refine (unhide CT).mono ?_
      rintro e u ⟨rfl, r1, b1⟩
      obtain ⟨B, S, at0, zg⟩ := unhide HS u b1
      have CN := hide (text_res zs a (a + 1) (t + 1) gr ao len cap u r1 S ht1)
      have H1 := hide (And.intro B (And.intro at0 zg))
      clear r1 b1 B S at0 zg CT HS IH hw1 c0 c1 c2 f1 f2
      cases hv : rdTxt zs a (a + 1) (t + 1) with
      | error p =>
        rw [hv] at CN
        have HV := hide hv
        clear hv
        go_wp2_with fail
        refine (unhide CN).mono ?_
        rintro e u2 ⟨rfl, b2⟩
        unfold fault
        go_wp2_with fail
        refine ⟨rfl, ?_⟩
        show Res _ _ _ _ _ _
        rw [unhide HV]
        exact ⟨rfl, (unhide H1).1.trans b2⟩
      | ok vp =>
        obtain ⟨v, a', t'⟩ := vp
        rw [hv] at CN
        have HV := hide hv
        clear hv
        go_wp2_with fail
        refine (unhide CN).mono ?_
        rintro e u2 ⟨s, rfl, rfl, hs, r2, b2⟩
        obtain ⟨B, at0, zg⟩ := unhide H1
        have at2 := (b2.block g zg (by omega)).trans at0
        obtain ⟨z0, z1, z2, z3, z4⟩ := row_cell at2
        have fz0 := frozen_of_row u2 g 0 _ _ at2
        have fz1 := frozen_of_row u2 g 1 _ _ at2
        have fz2 := frozen_of_row u2 g 2 _ _ at2
        have fz3 := frozen_of_row u2 g 3 _ _ at2
        have fz4 := frozen_of_row u2 g 4 _ _ at2
        have H2 := hide (And.intro r2 (And.intro (B.trans b2) at2))
        clear r2 b2 B at0 zg at2 H1 CN
        go_wp2_with fail
        obtain ⟨E1, E2⟩ := store_end (v := .mk 3 0 s [] []) (.int .i64 3) (.int .i64 0) (.string s) (.slice none 0 0) (.slice none 0 0) (unhide H2).2.2 (unhide H2).2.1 hg hrg (unhide H2).1 (fun u' _ _ h => plain_made h (by omega) (by omega) hs)
        obtain ⟨r0, r1, r2, r3, r4⟩ := row_cell E2
        refine bodyPost_ret (v := .agg #[.int .i64 3, .int .i64 0, .string s, .slice none 0 0, .slice none 0 0]) (by simp [results, Try.results78, go_sem, r0, r1, r2, r3, r4]) rfl ?_
        show Res _ _ _ _ _ _
        rw [unhide HV]
        exact E1
    · have hr : rdV zs (d' + 1) a t = rdAll zs (rdV zs d') a (a + 1) (t + 1) := by simpa using hrd
      rw [hr]
      clear hrd hr
      go_enter Try.func78, Try.ntmps78
      go_wp2_with fail
      refine (unhide CT).mono ?_
      rintro e u ⟨rfl, r1, b1⟩
      obtain ⟨B, S, at0, zg⟩ := unhide HS u b1
      have CN := hide (array_any zs d' (unhide IH) gr ao len cap a (a + 1) (t + 1) u r1 S ht1 hd)
      have H1 := hide (And.intro B (And.intro at0 zg))
      clear r1 b1 B S at0 zg CT HS IH hw1 c0 c1 c2 f1 f2
      cases hv : rdAll zs (rdV zs d') a (a + 1) (t + 1) with
      | error p =>
        rw [hv] at CN
        have HV := hide hv
        clear hv
        go_wp2_with fail
        refine (unhide CN).mono ?_
        rintro e u2 ⟨rfl, b2⟩
        unfold fault
        go_wp2_with fail
        refine ⟨rfl, ?_⟩
        show Res _ _ _ _ _ _
        rw [unhide HV]
        exact ⟨rfl, (unhide H1).1.trans b2⟩
      | ok vp =>
        obtain ⟨v, a', t'⟩ := vp
        rw [hv] at CN
        have HV := hide hv
        clear hv
        go_wp2_with fail
        refine (unhide CN).mono ?_
        rintro e u2 ⟨x2, rfl, p2, r2, b2⟩
        obtain ⟨k5, n5, s5, l5, ks5, al5, ak5, cl5, ck5, hy5, rfl⟩ := p2.shape
        clear hy5
        obtain ⟨lc5, hlc5⟩ : ∃ lc5, l5.length = lc5 := ⟨_, rfl⟩
        obtain ⟨mc5, hmc5⟩ : ∃ mc5, ks5.length = mc5 := ⟨_, rfl⟩
        rw [hlc5, hmc5] at p2 ⊢
        clear hlc5 hmc5
        obtain ⟨B, at0, zg⟩ := unhide H1
        have at2 := (b2.block g zg (by omega)).trans at0
        obtain ⟨z0, z1, z2, z3, z4⟩ := row_cell at2
        have fz0 := frozen_of_row u2 g 0 _ _ at2
        have fz1 := frozen_of_row u2 g 1 _ _ at2
        have fz2 := frozen_of_row u2 g 2 _ _ at2
        have fz3 := frozen_of_row u2 g 3 _ _ at2
        have fz4 := frozen_of_row u2 g 4 _ _ at2
        have H2 := hide (And.intro r2 (And.intro (B.trans b2) (And.intro at2 (And.intro p2 zg))))
        clear r2 b2 B at0 zg at2 H1 CN p2
        go_wp2_with fail
        obtain ⟨E1, E2⟩ := store_end (v := v) (.int .i64 k5) (.int .i64 n5) (.string s5) (.slice al5 lc5 cl5) (.slice ak5 mc5 ck5) (unhide H2).2.2.1 (unhide H2).2.1 hg hrg (unhide H2).1 (fun u' hs ho _ => ((unhide H2).2.2.2.1.move (fun c hc => ho c (by have := (unhide H2).2.2.2.2; have := hc.1; omega))).weak (fun c hc => ⟨by have := (unhide H2).2.2.2.2; have := hc.1; omega, by rw [hs]; exact hc.2⟩))
        obtain ⟨r0, r1, r2, r3, r4⟩ := row_cell E2
        refine bodyPost_ret (v := .agg #[.int .i64 k5, .int .i64 n5, .string s5, .slice al5 lc5 cl5, .slice ak5 mc5 ck5]) (by simp [results, Try.results78, go_sem, r0, r1, r2, r3, r4]) rfl ?_
        show Res _ _ _ _ _ _
        rw [unhide HV]
        exact E1
    · have hr : rdV zs (d' + 1) a t = rdPairs zs (rdV zs d') a (a + 1) (t + 1) := by simpa using hrd
      rw [hr]
      clear hrd hr
      go_enter Try.func78, Try.ntmps78
      go_wp2_with fail
      refine (unhide CT).mono ?_
      rintro e u ⟨rfl, r1, b1⟩
      obtain ⟨B, S, at0, zg⟩ := unhide HS u b1
      have CN := hide (record_any zs d' (unhide IH) gr ao len cap a (a + 1) (t + 1) u r1 S ht1 hd)
      have H1 := hide (And.intro B (And.intro at0 zg))
      clear r1 b1 B S at0 zg CT HS IH hw1 c0 c1 c2 f1 f2
      cases hv : rdPairs zs (rdV zs d') a (a + 1) (t + 1) with
      | error p =>
        rw [hv] at CN
        have HV := hide hv
        clear hv
        go_wp2_with fail
        refine (unhide CN).mono ?_
        rintro e u2 ⟨rfl, b2⟩
        unfold fault
        go_wp2_with fail
        refine ⟨rfl, ?_⟩
        show Res _ _ _ _ _ _
        rw [unhide HV]
        exact ⟨rfl, (unhide H1).1.trans b2⟩
      | ok vp =>
        obtain ⟨v, a', t'⟩ := vp
        rw [hv] at CN
        have HV := hide hv
        clear hv
        go_wp2_with fail
        refine (unhide CN).mono ?_
        rintro e u2 ⟨x2, rfl, p2, r2, b2⟩
        obtain ⟨k5, n5, s5, l5, ks5, al5, ak5, cl5, ck5, hy5, rfl⟩ := p2.shape
        clear hy5
        obtain ⟨lc5, hlc5⟩ : ∃ lc5, l5.length = lc5 := ⟨_, rfl⟩
        obtain ⟨mc5, hmc5⟩ : ∃ mc5, ks5.length = mc5 := ⟨_, rfl⟩
        rw [hlc5, hmc5] at p2 ⊢
        clear hlc5 hmc5
        obtain ⟨B, at0, zg⟩ := unhide H1
        have at2 := (b2.block g zg (by omega)).trans at0
        obtain ⟨z0, z1, z2, z3, z4⟩ := row_cell at2
        have fz0 := frozen_of_row u2 g 0 _ _ at2
        have fz1 := frozen_of_row u2 g 1 _ _ at2
        have fz2 := frozen_of_row u2 g 2 _ _ at2
        have fz3 := frozen_of_row u2 g 3 _ _ at2
        have fz4 := frozen_of_row u2 g 4 _ _ at2
        have H2 := hide (And.intro r2 (And.intro (B.trans b2) (And.intro at2 (And.intro p2 zg))))
        clear r2 b2 B at0 zg at2 H1 CN p2
        go_wp2_with fail
        obtain ⟨E1, E2⟩ := store_end (v := v) (.int .i64 k5) (.int .i64 n5) (.string s5) (.slice al5 lc5 cl5) (.slice ak5 mc5 ck5) (unhide H2).2.2.1 (unhide H2).2.1 hg hrg (unhide H2).1 (fun u' hs ho _ => ((unhide H2).2.2.2.1.move (fun c hc => ho c (by have := (unhide H2).2.2.2.2; have := hc.1; omega))).weak (fun c hc => ⟨by have := (unhide H2).2.2.2.2; have := hc.1; omega, by rw [hs]; exact hc.2⟩))
        obtain ⟨r0, r1, r2, r3, r4⟩ := row_cell E2
        refine bodyPost_ret (v := .agg #[.int .i64 k5, .int .i64 n5, .string s5, .slice al5 lc5 cl5, .slice ak5 mc5 ck5]) (by simp [results, Try.results78, go_sem, r0, r1, r2, r3, r4]) rfl ?_
        show Res _ _ _ _ _ _
        rw [unhide HV]
        exact E1

theorem val_any (zs : List Int) : ∀ d, ValAt zs d
  | 0 => val_step zs 0 (fun e h => by omega)
  | d + 1 => val_step zs (d + 1) (fun e h => by have : e = d := by omega
                                                rw [this]; exact val_any zs d)
end Go.Proofs.Ytfdnhpmldnmncaa
