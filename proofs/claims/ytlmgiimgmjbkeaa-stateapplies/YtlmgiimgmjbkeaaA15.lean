/-
  The walks of Put and Encode, of copied and same; conditions: the lengths together are below 2^47.
  The walk of value.Copy: a right value in new memory, the zero one of another; conditions: the form's own reach.
  A frame: only blocks of G have changed, and new ones may have come; no conditions.
-/
import Derived.Test.YtlmgiimgmjbkeaaA14
import Derived.Test.YtlmgiimgmjbkeaaA06
import Derived.Test.YtlmgiimgmjbkeaaA07
import Derived.Test.YtlmgiimgmjbkeaaA09
import Derived.Test.YtlmgiimgmjbkeaaA10
import Derived.Test.YtlmgiimgmjbkeaaA11
import Derived.Test.YtlmgiimgmjbkeaaA00
import Derived.Below
import Derived.Laws.Rows
import Derived.Deep.QuietTactic
set_option linter.unusedVariables false
set_option linter.unusedSimpArgs false
namespace Go.Proofs.Ytlmgiimgmjbkeaa
open Go.RowKit

/-- what a value's bytes are, if it is right -/
def wenc0R (v : Vl) : List Int := if rightB v = true then wenc v else []
def codeR (v : Vl) : Int := if rightB v = true then 0 else 40

theorem right_wt {v : Vl} (h : rightB v = true) : okB 8 v = true ∧ wt v ≤ 2048 := by
  unfold rightB at h
  rw [Bool.and_eq_true, decide_eq_true_eq] at h
  exact h

theorem row_of {w : World} {base n : Nat} {v : Value} {zs : List Int} (h : w.ownsRow base 5 1 v n (zs.map (Value.int .u8))) (hs : ∀ c ∈ zs, 0 ≤ c ∧ c ≤ 255) (hn : 0 < n) : ∃ g cap, v = .slice (some ⟨g, 0, none⟩) n cap ∧ base ≤ g ∧ Row8 w (some ⟨g, 0, none⟩) n cap zs ∧ cap ≤ maxLen := by
  obtain ⟨g, cap, rfl, hb⟩ := own_form h hn
  refine ⟨g, cap, rfl, hb, Row8.own h hs, ?_⟩
  obtain ⟨_, c2, e, _, _, h2, _⟩ := slice_form h
  cases e
  exact h2

theorem own_low {w : World} {base lo : Nat} {e : TypeId} {size : Nat} {v : Value} {n : Nat} {xs : List Value} (h : w.ownsRow base e size v n xs) (hb : lo ≤ base) : w.ownsRow lo e size v n xs := by
  refine ⟨h.1, ?_⟩
  rcases h.2 with hn | ⟨g, cap, cur, e, hbs, rest⟩
  · exact .inl hn
  · exact .inr ⟨g, cap, cur, e, Nat.le_trans hb hbs, rest⟩

set_option maxRecDepth 100000 in
set_option maxHeartbeats 800000 in
theorem put_any (ab : Option Addr) (lb cb : Nat) (zs : List Int) (v : Vl) (x : Value) (B : Nat) (w : World) (hz : Row8 w ab lb cb zs) (hv : IsV w B v x) (hBs : B ≤ w.heap.size) (hb : lb + 43008 ≤ 140737489403904) :
    Calls Try.prog 57 #[.slice ab lb cb, x] w fun e w' => ∃ (ao : Option Addr) (len cap : Nat), e = .returned (.tuple #[.slice ao len cap, .int .i64 (codeR v)]) ∧ Row8 w' ao len cap (if rightB v = true then zs ++ wenc v else []) ∧ Below w.heap.size w w' ∧ (∀ a, ao = some a → w.heap.size ≤ a.block) ∧ cap ≤ maxLen ∧ (rightB v = true → w'.ownsRow w.heap.size 5 1 (.slice ao len cap) len ((zs ++ wenc v).map (Value.int .u8))) := by
  have hfit := hv.fit
  obtain ⟨k, n, s, l, ks, al, ak, cl, ck, hvv, hx⟩ := hv.shape
  clear hvv
  obtain ⟨m, hm⟩ : ∃ m, ks.length = m := ⟨_, rfl⟩
  obtain ⟨ln, hln⟩ : ∃ ln, l.length = ln := ⟨_, rfl⟩
  rw [hm, hln] at hx
  subst hx
  obtain ⟨w1, hw1⟩ : ∃ w1, w.alloc (.cells #[.int .i64 k, .int .i64 n, .string s, .slice al ln cl, .slice ak m ck] 34) = w1 := ⟨_, rfl⟩
  have BX := Box.mk' w (.int .i64 k) (.int .i64 n) (.string s) (.slice al ln cl) (.slice ak m ck)
  rw [hw1] at BX
  obtain ⟨g, hg⟩ : ∃ g, w.heap.size = g := ⟨_, rfl⟩
  have z1 := BX.size
  have z1g : w1.heap.size = g + 1 := by omega
  have HRW : Hid (∀ u, Below w1.heap.size w1 u → u.heap[g]? = some (.cells #[.int .i64 k, .int .i64 n, .string s, .slice al ln cl, .slice ak m ck] 34 (0, 0)) ∧ IsV u B v (.agg #[.int .i64 k, .int .i64 n, .string s, .slice al ln cl, .slice ak m ck]) ∧ Row8 u ab lb cb zs ∧ Below w.heap.size w u) := hide (fun u hu => ⟨by rw [← hg]; exact (hu.block _ (by omega)).trans BX.row, hv.mono ((BX.below.mono hBs).trans (hu.mono (by omega))), (hz.later BX.below).later hu, BX.below.trans (hu.mono (by omega))⟩)
  have CR := hide (right_code v _ B w1 (unhide HRW w1 (Below.refl _ _)).2.1 (by omega))
  obtain ⟨c0, c1, c2, c3, c4⟩ := row_cell (unhide HRW w1 (Below.refl _ _)).1
  clear BX hv hz z1 hm hln
  cases hR : rightB v with
  | false =>
    rw [hR] at CR
    have HC : Hid (codeR v = 40) := hide (by simp [codeR, hR])
    clear hR
    go_enter Try.func57, Try.ntmps57
    go_wp2_with fail
    refine (unhide CR).mono ?_
    rintro e w2 ⟨rfl, b2⟩
    have H2 := hide b2
    clear b2 CR
    go_wp2_with fail
    go_ret2
    refine ⟨none, 0, 0, by rw [unhide HC]; rfl, by simpa using nilRow _, ?_, (fun a h => by cases h), by unfold maxLen; omega⟩
    have h := (unhide HRW _ (unhide H2)).2.2.2
    first | exact h | (rw [← hg]; exact h)
  | true =>
    rw [hR] at CR
    have hw2 := right_wt hR
    have hlen := wenc_len v
    have hlb : (wenc v).length ≤ 43008 := by omega
    have hpos := wenc_pos v 8 hw2.1
    have hsm := wenc_small v 8 hw2.1 hfit
    have HS := hide (And.intro hsm hw2.1)
    have HC : Hid (codeR v = 0) := hide (by simp [codeR, hR])
    obtain ⟨Z, hZ⟩ : ∃ Z, wenc v = Z := ⟨_, rfl⟩
    have CL : Hid (∀ u, Below w1.heap.size w1 u → Calls Try.prog 68 #[.slice none 0 0, .agg #[.int .i64 k, .int .i64 n, .string s, .slice al ln cl, .slice ak m ck]] u fun e w' => ∃ sv', e = .returned sv' ∧ w'.ownsRow u.heap.size 5 1 sv' (0 + Z.length) (([] ++ Z).map (Value.int .u8)) ∧ Grew u w' (.slice none 0 0) sv') := hide (fun u hu => by
      have h := lay_any 8 v _ B u.heap.size u (.slice none 0 0) 0 [] hw2.1 (unhide HRW u hu).2.1 (by have := hu.size; omega) (Nat.le_refl _) (World.ownsRow_nil _ _ _ _) (by omega)
      rw [hZ] at h
      exact h)
    rw [hZ] at hlb hpos HS
    rw [if_pos rfl, hZ]
    clear hR hw2 hlen hsm hZ hfit
    go_enter Try.func57, Try.ntmps57
    go_wp2_with fail
    refine (unhide CR).mono ?_
    rintro e w2 ⟨rfl, b2⟩
    have H2 := hide b2
    clear b2 CR c0 c1 c2 c3 c4
    obtain ⟨c0, c1, c2, c3, c4⟩ := row_cell (unhide HRW w2 (unhide H2)).1
    go_wp2_with fail
    refine (unhide CL w2 (unhide H2)).mono ?_
    rintro e w3 ⟨sv3, rfl, own3, gr3⟩
    rw [Nat.zero_add, List.nil_append] at own3
    obtain ⟨g3, cp3, rfl, hg3, r3, _⟩ := row_of own3 (unhide HS).1 (by omega)
    have b3 : Below w2.heap.size w2 w3 := ⟨gr3.grown.os, gr3.grown.tape, gr3.grown.output, gr3.grown.size, fun q hq => gr3.grown.block q hq (by simp [Value.ownBlock])⟩
    have X3 : Below w1.heap.size w1 w3 := (unhide H2).trans (b3.mono (unhide H2).size)
    obtain ⟨h3, hh3⟩ : ∃ h3, w3.heap.size = h3 := ⟨_, rfl⟩
    obtain ⟨w4, hw4⟩ : ∃ w4, w3.alloc (.cells #[.slice ab lb cb, .slice (some ⟨g3, 0, none⟩) Z.length cp3] 44) = w4 := ⟨_, rfl⟩
    have b4 : Below w3.heap.size w3 w4 := by rw [← hw4]; exact (Below.refl _ _).alloc (Nat.le_refl _) _
    have at4 : w4.heap[h3]? = some (.cells #[.slice ab lb cb, .slice (some ⟨g3, 0, none⟩) Z.length cp3] 44 (0, 0)) := by rw [← hw4, ← hh3]; exact heap_alloc_new _ _
    have CCt := hide (concat_two h3 44 ab (some ⟨g3, 0, none⟩) lb cb Z.length cp3 zs Z w4 at4 (((unhide HRW w3 X3).2.2.1).later b4) (r3.later b4) (by omega))
    have X4 := hide (X3.trans (b4.mono X3.size))
    clear own3 gr3 r3 b3 X3 b4 at4 c0 c1 c2 c3 c4 CL
    go_wp2_with fail
    refine (unhide CCt).mono ?_
    rintro e w5 ⟨sv5, rfl, own5, b5⟩
    have hsz : ∀ c ∈ zs ++ Z, 0 ≤ c ∧ c ≤ 255 := fun c hc => by
      rcases List.mem_append.1 hc with h | h
      · exact (unhide HRW w1 (Below.refl _ _)).2.2.1.small c h
      · exact (unhide HS).1 c h
    obtain ⟨g5, cp5, rfl, hg5, r5, m5⟩ := row_of own5 hsz (by omega)
    have X5 := hide ((unhide X4).trans (b5.mono (unhide X4).size))
    have H5 := hide r5
    have M5 := hide (And.intro m5 own5)
    have hz4 := (unhide X4).size
    clear own5 b5 r5 m5 hsz CCt
    go_wp2_with fail
    go_ret2
    refine ⟨_, _, _, by rw [unhide HC]; rfl, unhide H5, ?_, (fun a h => by cases h; show _ ≤ g5; omega), (unhide M5).1, fun _ => own_low (unhide M5).2 (by omega)⟩
    have h := (unhide HRW _ (unhide X5)).2.2.2
    first | exact h | (rw [← hg]; exact h)

set_option maxRecDepth 100000 in
set_option maxHeartbeats 400000 in
theorem encode_any (v : Vl) (x : Value) (B : Nat) (w : World) (hv : IsV w B v x) (hBs : B ≤ w.heap.size) :
    Calls Try.prog 39 #[x] w fun e w' => ∃ (ao : Option Addr) (len cap : Nat), e = .returned (.tuple #[.slice ao len cap, .int .i64 (codeR v)]) ∧ Row8 w' ao len cap (wenc0R v) ∧ Below w.heap.size w w' ∧ (∀ a, ao = some a → w.heap.size ≤ a.block) ∧ cap ≤ maxLen := by
  obtain ⟨k, n, s, l, ks, al, ak, cl, ck, hvv, hx⟩ := hv.shape
  clear hvv
  obtain ⟨m, hm⟩ : ∃ m, ks.length = m := ⟨_, rfl⟩
  obtain ⟨ln, hln⟩ : ∃ ln, l.length = ln := ⟨_, rfl⟩
  rw [hm, hln] at hx
  subst hx
  obtain ⟨w1, hw1⟩ : ∃ w1, w.alloc (.cells #[.int .i64 k, .int .i64 n, .string s, .slice al ln cl, .slice ak m ck] 34) = w1 := ⟨_, rfl⟩
  have BX := Box.mk' w (.int .i64 k) (.int .i64 n) (.string s) (.slice al ln cl) (.slice ak m ck)
  rw [hw1] at BX
  obtain ⟨c0, c1, c2, c3, c4⟩ := row_cell BX.row
  have z1 := BX.size
  have CP := hide (put_any none 0 0 [] v _ B w1 (nilRow _) (hv.mono (BX.below.mono hBs)) (by omega) (by omega))
  rw [List.nil_append] at CP
  have HW : Hid ((if rightB v = true then wenc v else []) = wenc0R v) := hide rfl
  obtain ⟨Z, hZ⟩ : ∃ Z, wenc0R v = Z := ⟨_, rfl⟩
  rw [unhide HW, hZ] at CP
  obtain ⟨C, hC⟩ : ∃ C, codeR v = C := ⟨_, rfl⟩
  rw [hC] at CP
  rw [hZ, hC]
  have HB := hide BX.below
  clear BX hv hm hln hZ hC HW
  go_enter Try.func39, Try.ntmps39
  go_wp2_with fail
  refine (unhide CP).mono ?_
  rintro e w2 ⟨ao, len, cap, rfl, r2, b2, n2⟩
  have H2 := hide (And.intro r2 (And.intro b2 n2))
  clear r2 b2 n2 CP
  go_wp2_with fail
  go_ret2
  exact ⟨ao, len, cap, rfl, (unhide H2).1, (unhide HB).trans ((unhide H2).2.1.mono (by omega)), (fun a h => by have := (unhide H2).2.2.1 a h; omega), (unhide H2).2.2.2.1⟩

end Go.Proofs.Ytlmgiimgmjbkeaa

namespace Go.Proofs.Ytlmgiimgmjbkeaa
open Go.RowKit
set_option linter.unusedVariables false
set_option linter.unusedSimpArgs false

def fewB (v : Vl) : Bool := decide (cnt v ≤ 5000)
theorem few_right {v : Vl} (h : rightB v = true) : fewB v = true := by
  unfold rightB at h
  rw [Bool.and_eq_true, decide_eq_true_eq] at h
  have := cnt_wt v
  unfold fewB
  exact decide_eq_true (by omega)





set_option maxRecDepth 100000 in
set_option maxHeartbeats 400000 in
theorem copy_any (v : Vl) (x : Value) (B : Nat) (w : World) (hv : IsV w B v x) (hBs : B ≤ w.heap.size) :
    Calls Try.prog 25 #[x] w fun e w' => ∃ x', e = .returned x' ∧ Below w.heap.size w w' ∧ (rightB v = true → IsQ w' (fun b => w.heap.size ≤ b ∧ b < w'.heap.size) v x') ∧ (rightB v = false → x' = .agg #[.int .i64 0, .int .i64 0, .string ⟨#[]⟩, .slice none 0 0, .slice none 0 0]) := by
  obtain ⟨k, n, s, l, ks, al, ak, cl, ck, hvv, hx⟩ := hv.shape
  clear hvv
  obtain ⟨m, hm⟩ : ∃ m, ks.length = m := ⟨_, rfl⟩
  obtain ⟨ln, hln⟩ : ∃ ln, l.length = ln := ⟨_, rfl⟩
  rw [hm, hln] at hx
  subst hx
  have TW := Two.mk' w 34 #[.int .i64 k, .int .i64 n, .string s, .slice al ln cl, .slice ak m ck] #[.int .i64 0, .int .i64 0, .string ⟨#[]⟩, .slice none 0 0, .slice none 0 0]
  obtain ⟨w2, hw2⟩ : ∃ w2, (w.alloc (.cells #[.int .i64 k, .int .i64 n, .string s, .slice al ln cl, .slice ak m ck] 34)).alloc (.cells #[.int .i64 0, .int .i64 0, .string ⟨#[]⟩, .slice none 0 0, .slice none 0 0] 34) = w2 := ⟨_, rfl⟩
  rw [hw2] at TW
  obtain ⟨g, hg⟩ : ∃ g, w.heap.size = g := ⟨_, rfl⟩
  rw [hg] at TW
  have HT : Hid (∀ u, Below w2.heap.size w2 u → u.heap[g]? = some (.cells #[.int .i64 k, .int .i64 n, .string s, .slice al ln cl, .slice ak m ck] 34 (0, 0)) ∧ u.heap[g + 1]? = some (.cells #[.int .i64 0, .int .i64 0, .string ⟨#[]⟩, .slice none 0 0, .slice none 0 0] 34 (0, 0)) ∧ IsV u B v (.agg #[.int .i64 k, .int .i64 n, .string s, .slice al ln cl, .slice ak m ck]) ∧ B ≤ u.heap.size ∧ Below w.heap.size w u ∧ g + 2 ≤ u.heap.size) :=
    hide (fun u hu => by
      have h1 : Below w.heap.size w u := TW.below.trans (hu.mono (by have := TW.size; omega))
      have h2 := TW.size
      have h3 := hu.size
      exact ⟨(TW.later hu).1, (TW.later hu).2, hv.mono (h1.mono hBs), by omega, h1, by omega⟩)
  obtain ⟨c0, c1, c2, c3, c4⟩ := row_cell TW.at0
  have CF := hide (right_code v _ B w2 (unhide HT w2 (Below.refl _ _)).2.2.1 (unhide HT w2 (Below.refl _ _)).2.2.2.1)
  clear TW hv hm hln
  cases hF : rightB v with
  | false =>
    rw [hF] at CF
    clear hF
    go_enter Try.func25, Try.ntmps25
    go_wp2_with fail
    refine (unhide CF).mono ?_
    rintro e u3 ⟨rfl, b3⟩
    have H3 := hide b3
    clear b3 CF c0 c1 c2 c3 c4
    obtain ⟨c0, c1, c2, c3, c4⟩ := row_cell (unhide HT u3 (unhide H3)).1
    have ATX := (unhide HT u3 (unhide H3)).2.1
    obtain ⟨z0, z1, z2, z3, z4⟩ := row_cell ATX
    have fz : ∀ q, u3.frozen? ⟨g + 1, q, none⟩ = false := fun q => frozen_of_row u3 (g + 1) q _ _ ATX
    have fz0 := fz 0
    have fz1 := fz 1
    have fz2 := fz 2
    have fz3 := fz 3
    have fz4 := fz 4
    have HAT := hide ATX
    clear fz ATX
    go_wp2_with fail
    have ATX := unhide HAT
    have BW := (unhide HT u3 (unhide H3)).2.2.2.2.1
    have R9 := five_set u3 (g + 1) 34 _ _ _ _ _ (.int .i64 0) (.int .i64 0) (.string ⟨#[]⟩) (.slice none 0 0) (.slice none 0 0) ATX
    have O9 := five_other u3 (g + 1) (x0 := .int .i64 0) (x1 := .int .i64 0) (x2 := .string ⟨#[]⟩) (x3 := .slice none 0 0) (x4 := .slice none 0 0)
    have S9 : (((((u3.setCell ⟨g + 1, 0, none⟩ (.int .i64 0)).setCell ⟨g + 1, 1, none⟩ (.int .i64 0)).setCell ⟨g + 1, 2, none⟩ (.string ⟨#[]⟩)).setCell ⟨g + 1, 3, none⟩ (.slice none 0 0)).setCell ⟨g + 1, 4, none⟩ (.slice none 0 0)).heap.size = u3.heap.size := by simp
    obtain ⟨w9, hw9⟩ : ∃ w9, (((((u3.setCell ⟨g + 1, 0, none⟩ (.int .i64 0)).setCell ⟨g + 1, 1, none⟩ (.int .i64 0)).setCell ⟨g + 1, 2, none⟩ (.string ⟨#[]⟩)).setCell ⟨g + 1, 3, none⟩ (.slice none 0 0)).setCell ⟨g + 1, 4, none⟩ (.slice none 0 0)) = w9 := ⟨_, rfl⟩
    rw [hw9] at R9 S9 ⊢
    have B9 : Below w.heap.size w w9 := by rw [← hw9]; exact five_below BW (by omega) _ _ _ _ _
    obtain ⟨r0, r1, r2, r3, r4⟩ := row_cell R9
    refine bodyPost_ret (v := .agg #[.int .i64 0, .int .i64 0, .string ⟨#[]⟩, .slice none 0 0, .slice none 0 0]) (by simp [results, Try.results25, go_sem, r0, r1, r2, r3, r4]) rfl ?_
    first | exact ⟨_, rfl, B9, (fun h => by cases h), fun _ => rfl⟩ | (rw [hg] at B9; exact ⟨_, rfl, B9, (fun h => by cases h), fun _ => rfl⟩) | exact ⟨rfl, B9⟩ | (rw [hg] at B9; exact ⟨rfl, B9⟩)
  | true =>
    rw [hF] at CF
    have hcn : cnt v ≤ 5000 := by have h := few_right hF; unfold fewB at h; exact of_decide_eq_true h
    have CD := fun u hu => hide (cln_any (dep v) v _ B u (Nat.le_refl _) hcn (unhide HT u hu).2.2.1 (unhide HT u hu).2.2.2.1)
    clear hF hcn
    go_enter Try.func25, Try.ntmps25
    go_wp2_with fail
    refine (unhide CF).mono ?_
    rintro e u3 ⟨rfl, b3⟩
    have H3 := hide b3
    clear b3 CF c0 c1 c2 c3 c4
    obtain ⟨c0, c1, c2, c3, c4⟩ := row_cell (unhide HT u3 (unhide H3)).1
    go_wp2_with fail
    refine (unhide (CD u3 (unhide H3))).mono ?_
    rintro e u4 ⟨x4, rfl, p4, b4⟩
    obtain ⟨k4, n4, s4, l4, ks4, al4, ak4, cl4, ck4, hv4, rfl⟩ := p4.shape
    clear hv4
    obtain ⟨lc, hlc⟩ : ∃ lc, l4.length = lc := ⟨_, rfl⟩
    obtain ⟨mc, hmc⟩ : ∃ mc, ks4.length = mc := ⟨_, rfl⟩
    rw [hlc, hmc] at p4 ⊢
    have X4 := (unhide H3).trans (b4.mono (unhide H3).size)
    have H4 := hide (And.intro X4 (And.intro p4 b4.size))
    have ATX := (unhide HT u4 X4).2.1
    obtain ⟨z0, z1, z2, z3, z4⟩ := row_cell ATX
    have fz : ∀ q, u4.frozen? ⟨g + 1, q, none⟩ = false := fun q => frozen_of_row u4 (g + 1) q _ _ ATX
    have fz0 := fz 0
    have fz1 := fz 1
    have fz2 := fz 2
    have fz3 := fz 3
    have fz4 := fz 4
    have HAT := hide ATX
    clear fz ATX p4 b4 X4 CD hlc hmc c0 c1 c2 c3 c4
    go_wp2_with fail
    have ATX := unhide HAT
    have BW := (unhide HT u4 (unhide H4).1).2.2.2.2.1
    have g3 := (unhide HT u3 (unhide H3)).2.2.2.2.2
    have R9 := five_set u4 (g + 1) 34 _ _ _ _ _ (.int .i64 k4) (.int .i64 n4) (.string s4) (.slice al4 lc cl4) (.slice ak4 mc ck4) ATX
    have O9 := five_other u4 (g + 1) (x0 := .int .i64 k4) (x1 := .int .i64 n4) (x2 := .string s4) (x3 := .slice al4 lc cl4) (x4 := .slice ak4 mc ck4)
    have S9 : (((((u4.setCell ⟨g + 1, 0, none⟩ (.int .i64 k4)).setCell ⟨g + 1, 1, none⟩ (.int .i64 n4)).setCell ⟨g + 1, 2, none⟩ (.string s4)).setCell ⟨g + 1, 3, none⟩ (.slice al4 lc cl4)).setCell ⟨g + 1, 4, none⟩ (.slice ak4 mc ck4)).heap.size = u4.heap.size := by simp
    obtain ⟨w9, hw9⟩ : ∃ w9, (((((u4.setCell ⟨g + 1, 0, none⟩ (.int .i64 k4)).setCell ⟨g + 1, 1, none⟩ (.int .i64 n4)).setCell ⟨g + 1, 2, none⟩ (.string s4)).setCell ⟨g + 1, 3, none⟩ (.slice al4 lc cl4)).setCell ⟨g + 1, 4, none⟩ (.slice ak4 mc ck4)) = w9 := ⟨_, rfl⟩
    rw [hw9] at R9 S9 ⊢
    have B9 : Below w.heap.size w w9 := by rw [← hw9]; exact five_below BW (by omega) _ _ _ _ _
    obtain ⟨r0, r1, r2, r3, r4⟩ := row_cell R9
    refine bodyPost_ret (v := .agg #[.int .i64 k4, .int .i64 n4, .string s4, .slice al4 lc cl4, .slice ak4 mc ck4]) (by simp [results, Try.results25, go_sem, r0, r1, r2, r3, r4]) rfl ?_
    have Q9 : IsQ w9 (fun b => w.heap.size ≤ b ∧ b < w9.heap.size) v (.agg #[.int .i64 k4, .int .i64 n4, .string s4, .slice al4 lc cl4, .slice ak4 mc ck4]) := ((unhide H4).2.1.move (fun q hq => by rw [← hw9]; exact O9 q (by have := hq.1; omega))).weak (fun q hq => ⟨by have := hq.1; omega, by have := hq.2; omega⟩)
    first | exact ⟨_, rfl, B9, (fun _ => Q9), fun h => by cases h⟩ | (rw [hg] at B9 Q9; exact ⟨_, rfl, B9, (fun _ => Q9), fun h => by cases h⟩) | exact ⟨_, rfl, B9, Q9⟩ | (rw [hg] at B9 Q9; exact ⟨_, rfl, B9, Q9⟩)

end Go.Proofs.Ytlmgiimgmjbkeaa

namespace Go.Proofs.Ytlmgiimgmjbkeaa
open Go.RowKit

structure Fr (G : Nat → Prop) (w w' : World) : Prop where
  os : w'.os = w.os
  tape : w'.tape = w.tape
  output : w'.output = w.output
  size : w.heap.size ≤ w'.heap.size
  block : ∀ j, j < w.heap.size → ¬ G j → w'.heap[j]? = w.heap[j]?

theorem sz_setCell (w : World) (a : Addr) (v : Value) : (w.setCell a v).heap.size = w.heap.size := by simp [World.setCell]

theorem drew_at {w : World} {j : Nat} {o : Option Obj} (h : w.heap[j]? = o) : w.drew.heap[j]? = o := h
theorem heap_drew (w : World) : w.drew.heap = w.heap := rfl

section
variable {G G' : Nat → Prop} {w w1 w2 : World}

theorem Fr.refl (G : Nat → Prop) (w : World) : Fr G w w := ⟨rfl, rfl, rfl, Nat.le_refl _, fun _ _ _ => rfl⟩
theorem Fr.trans (h : Fr G w w1) (h2 : Fr G' w1 w2) (hs : ∀ j, j < w.heap.size → G' j → G j) : Fr G w w2 :=
  ⟨h2.os.trans h.os, h2.tape.trans h.tape, h2.output.trans h.output, Nat.le_trans h.size h2.size, fun j hj hn => (h2.block j (Nat.lt_of_lt_of_le hj h.size) (fun e => hn (hs j hj e))).trans (h.block j hj hn)⟩
theorem Fr.mono (h : Fr G' w w1) (hs : ∀ j, j < w.heap.size → G' j → G j) : Fr G w w1 := ⟨h.os, h.tape, h.output, h.size, fun j hj hn => h.block j hj (fun e => hn (hs j hj e))⟩
theorem Fr.of (h : Below w.heap.size w w1) : Fr G w w1 := ⟨h.os, h.tape, h.output, h.size, fun j hj _ => h.block j hj⟩
theorem Fr.below (h : Fr G w w1) {B : Nat} (hB : B ≤ w.heap.size) (hg : ∀ j, G j → B ≤ j) : Below B w w1 := ⟨h.os, h.tape, h.output, h.size, fun j hj => h.block j (by omega) (fun e => by have := hg j e; omega)⟩
theorem Fr.then (h : Fr G w w1) (h2 : Below w1.heap.size w1 w2) : Fr G w w2 := h.trans (Fr.of (G := fun _ => False) h2) (fun _ _ e => e.elim)
theorem Fr.behind (h : Below w.heap.size w w1) (h2 : Fr G' w1 w2) (hs : ∀ j, j < w.heap.size → G' j → G j) : Fr G w w2 := (Fr.of h).trans h2 hs
theorem Fr.nil (h : Fr (fun _ => False) w w1) : Below w.heap.size w w1 := h.below (Nat.le_refl _) (fun _ e => e.elim)
theorem Fr.set (g i : Nat) (v : Value) (w : World) : Fr (fun j => j = g) w (w.setCell ⟨g, i, none⟩ v) := ⟨rfl, rfl, rfl, by simp [World.setCell], fun j _ hn => heap_setCell_other _ _ _ _ hn⟩
theorem Fr.put {g i : Nat} {v : Value} (h : Fr G w w1) (hg : G g) : Fr G w (w1.setCell ⟨g, i, none⟩ v) := h.trans (Fr.set g i v w1) (fun j _ e => by rw [e]; exact hg)
theorem Fr.draw (q : Nat) (w : World) : Fr G w (w.drewN q) := ⟨rfl, rfl, rfl, Nat.le_refl _, fun _ _ _ => rfl⟩
theorem Fr.drew (w : World) : Fr G w w.drew := ⟨rfl, rfl, rfl, Nat.le_refl _, fun _ _ _ => rfl⟩
end
end Go.Proofs.Ytlmgiimgmjbkeaa
