/-
  The walks of lent and still: bytes with spare room behind them and a mark in it, and whether they are as they were; no conditions but that the bytes and the room fit.
-/
import Derived.Test.YtojhfoojodmmaaaLaw1
import Derived.Laws.CopyOwn
namespace Go.Proofs.Ytojhfoojodmmaaa
open Go.RowKit

theorem size5 : (Try.prog.info? 5).map (·.size) = some 1 := by kernel_rfl

theorem own_block {w : World} {base g n : Nat} {xs : List Value} (h : w.ownsRow base 5 1 (.slice (some ⟨g, 0, none⟩) n n) n xs) : w.heap[g]? = some (.cells xs.toArray 5 (0, 0)) := by
  rcases h.2 with ⟨e, _⟩ | ⟨g', cap', cur, e, _, hg, _, _, hs, ht⟩
  · cases e
  · cases e
    have hc : cur.toList = xs := by rw [← ht, List.take_of_length_le (by simp; omega)]
    rw [hg, ← hc]

theorem own_of_block {w : World} {base g n : Nat} {xs : List Value} (hb : base ≤ g) (hl : xs.length = n) (hm : n ≤ maxLen) (h : w.heap[g]? = some (.cells xs.toArray 5 (0, 0))) : w.ownsRow base 5 1 (.slice (some ⟨g, 0, none⟩) n n) n xs :=
  ⟨by simpa using hl, Or.inr ⟨g, n, xs.toArray, rfl, hb, h, Nat.le_refl _, hm, by simpa using hl, by rw [List.take_of_length_le (by simp; omega)]⟩⟩

theorem marks (zs : List Int) (xs : List Value) (len : Nat) (hl : xs.length = len + 8) (ht : xs.take len = zs.map (Value.int .u8)) (hm : ∀ j, len ≤ j → j < len + 8 → xs[j]? = some (.int .u8 77)) :
    xs = (zs ++ List.replicate 8 77).map (Value.int .u8) := by
  rw [← List.take_append_drop len xs, ht, List.map_append, List.map_replicate]
  congr 1
  apply List.ext_getElem?
  intro j
  rw [List.getElem?_drop]
  by_cases h : j < 8
  · rw [hm (len + j) (by omega) (by omega), List.getElem?_replicate_of_lt h]
  · rw [List.getElem?_eq_none (by omega), List.getElem?_eq_none (by simp; omega)]

theorem marks_step (xs zs' : List Value) (len k : Nat) (hk : len ≤ k) (hk8 : k < len + 8) (hl : xs.length = len + 8) (ht : xs.take len = zs') (hm : ∀ j, len ≤ j → j < k → xs[j]? = some (.int .u8 77)) :
    (xs.set k (.int .u8 77)).length = len + 8 ∧ (xs.set k (.int .u8 77)).take len = zs' ∧ ∀ j, len ≤ j → j < k + 1 → (xs.set k (.int .u8 77))[j]? = some (.int .u8 77) := by
  refine ⟨by simpa using hl, by rw [List.take_set_of_le hk]; exact ht, fun j h1 h2 => ?_⟩
  rw [List.getElem?_set]
  by_cases h : k = j
  · subst h
    rw [if_pos rfl, if_pos (by omega)]
  · rw [if_neg h]; exact hm j h1 (by omega)

theorem splice_take (M cs : List Value) : (splice M 0 cs).take cs.length = cs := by
  unfold splice
  rw [List.take_zero, List.nil_append, List.take_left]

theorem made_len (n : Nat) : (madeCells (Value.int IntKind.u8 0).cells (n * 1)).toList.length = n := by
  rw [Array.length_toList, size_madeCells, Nat.mul_one]

set_option maxHeartbeats 1000000 in
theorem lent_any (ao : Option Addr) (len cap : Nat) (zs : List Int) (w : World) (hr : Row8 w ao len cap zs) (hm : len + 8 ≤ 281474976710656) :
    Calls Try.prog 10 #[.slice ao len cap] w fun e w' => e = .returned (.slice (some ⟨w.heap.size, 0, none⟩) (len + 8) (len + 8)) ∧
      w'.ownsRow w.heap.size 5 1 (.slice (some ⟨w.heap.size, 0, none⟩) (len + 8) (len + 8)) (len + 8) ((zs ++ List.replicate 8 77).map (Value.int .u8)) ∧ Below w.heap.size w w' := by
  obtain ⟨i0, hi, hz0, hz1, hz2⟩ := info_parts info5
  go_enter Try.func10, Try.ntmps10
  go_wp2_with (first
    | (at_make; refine wpList_make_full _ rfl _ _ 22 rfl w.heap.size 5 i0 (.int .u8 0) 1 Try.underlying22 hi hz0 hz1 _ _ _ _ (len + 8) rfl rfl (by omega) (by omega) (by rw [hz2]; omega) (by unfold maxLen; omega) (Nat.le_refl _) ?_; intro w1 hown1 hgrow1; have tok1 : True := trivial)
    | (have _t := tok1; refine wpList_copy_splice rfl (.tmp 9) (.tmp 10) 22 22 rfl 5 Try.underlying22 size5 (some ⟨w.heap.size, 0, none⟩) ao (len + 8) (len + 8) len cap rfl rfl w.heap.size 0 _ 5 (own_block hown1) (zs.map (Value.int .u8)) ?c1 ?c2 ?c3 (ints_oneCell _ _) w.heap.size w ((Below.refl _ _).grown hgrow1 (Nat.le_refl _) (by simp)) (Nat.le_refl _) ?_; rotate_right; intro w2 HG hb2; clear tok1))
  case c1 => rw [List.length_map, hr.length]; exact (Nat.min_eq_left (by omega)).symm
  case c2 =>
    intro hp
    obtain ⟨b, off, rfl, _⟩ := hr.at (by have := hr.length; omega)
    exact ⟨_, rfl, fun j z hj => hgrow1.cell (hr.cells _ rfl j _ (by simp [hj])) (by simp)⟩
  case c3 => rw [made_len, List.length_map, hr.length]; omega
  have hz := hr.length
  have hL : (splice (madeCells (Value.int IntKind.u8 0).cells ((len + 8) * 1)).toList 0 (zs.map (Value.int .u8))).length = len + 8 := by
    rw [length_splice _ _ _ (by rw [made_len, List.length_map]; omega), made_len]
  have hT := splice_take (madeCells (Value.int IntKind.u8 0).cells ((len + 8) * 1)).toList (zs.map (Value.int .u8))
  rw [List.length_map, hz] at hT
  have hown2 := own_of_block (base := w.heap.size) (g := w.heap.size) (Nat.le_refl _) hL (by unfold maxLen; omega) (HG.out)
  generalize splice (madeCells (Value.int IntKind.u8 0).cells ((len + 8) * 1)).toList 0 (zs.map (Value.int .u8)) = L at *
  have HT := hide hT
  have HL := hide hL
  clear HG hT hL hz hown1 hgrow1 hr
  go_loopw [4] (fun x wr => ∃ (k : Nat) (xs : List Value), len ≤ k ∧ k ≤ len + 8 ∧ x = .int .i64 k ∧ wr.ownsRow w.heap.size 5 1 (.slice (some ⟨w.heap.size, 0, none⟩) (len + 8) (len + 8)) (len + 8) xs ∧
      Hid (xs.length = len + 8) ∧ Hid (xs.take len = zs.map (Value.int .u8)) ∧ Hid (∀ j, len ≤ j → j < k → xs[j]? = some (.int .u8 77)) ∧ Below w.heap.size w wr) (fun x _ => len + 8 - (intOf x).toNat)
  case atStart => exact ⟨len, L, by omega, by omega, rfl, hown2, HL, HT, hide (fun j h1 h2 => by omega), hb2⟩
  case round =>
    obtain ⟨k, xs, hk1, hk2, rfl, hown, HX, HY, HM, hbel⟩ := hrel
    by_cases hlt : k < len + 8
    · have hx := unhide HX
      have hcell := hown.cellAt k (by omega)
      obtain ⟨v, hv⟩ : ∃ v, xs[k]? = some v := ⟨_, List.getElem?_eq_getElem (by omega)⟩
      rw [hv] at hcell
      clear hv
      have hfz := hown.frozenAt k
      have hi1 : (k : Int) < (len : Int) + 8 := by omega
      obtain ⟨hown', hgrow'⟩ := hown.stored k (.int .u8 77)
      have hst := marks_step xs _ len k hk1 hlt hx (unhide HY) (unhide HM)
      have HS := hide hst
      have hbel' := hbel.grown hgrow' hbel.size (by simp)
      have HO := hide hown'
      have HB := hide hbel'
      clear hst hx hown hown2 hown' hbel' hgrow' hb2
      go_wp2
      go_roundw
      case rel => exact ⟨k + 1, _, by omega, by omega, by go_num, unhide HO, hide (unhide HS).1, hide (unhide HS).2.1, hide (unhide HS).2.2, unhide HB⟩
      case measure => simp [intOf]; omega
    · have hk : k = len + 8 := by omega
      subst hk
      have hfin := marks zs xs len (unhide HX) (unhide HY) (unhide HM)
      have HF := hide hfin
      clear hfin
      go_wp2
      go_ret
      exact ⟨rfl, by rw [← unhide HF]; exact hown, hbel⟩

set_option maxRecDepth 100000 in
set_option maxHeartbeats 1000000 in
theorem still_any (g : Nat) (ao : Option Addr) (len cap : Nat) (zs : List Int) (w : World) (hl : Row8 w (some ⟨g, 0, none⟩) (len + 8) (len + 8) (zs ++ List.replicate 8 77)) (hr : Row8 w ao len cap zs) (hm : len + 8 ≤ 281474976710656) :
    Calls Try.prog 14 #[.slice (some ⟨g, 0, none⟩) (len + 8) (len + 8), .slice ao len cap] w fun e w' => e = .returned (.bool true) ∧ ∃ q, w' = w.drewN q := by
  have hz := hr.length
  obtain ⟨g', o', e', hcl⟩ := hl.at (by omega)
  cases e'
  simp only [Nat.zero_add] at hcl
  go_enter Try.func14, Try.ntmps14
  go_wp2
  go_loopw [5] (fun x wr => ∃ (k q : Nat), k ≤ len + 8 ∧ x = .int .i64 k ∧ wr = w.drewN q) (fun x _ => len + 8 - (intOf x).toNat)
  case atStart => exact ⟨0, 0, by omega, rfl, rfl⟩
  case round =>
    obtain ⟨k, q, hk, rfl, rfl⟩ := hrel
    by_cases hlt : k < len + 8
    · have hi1 : (k : Int) < (len : Int) + 8 := by omega
      have c1 := hcl k hlt
      by_cases h2 : k < len
      · have e1 : (zs ++ List.replicate 8 77).getD k 0 = zs.getD k 0 := by simp [List.getD, List.getElem?_append, (by omega : k < zs.length)]
        rw [e1] at c1
        obtain ⟨b, off, rfl, hcr⟩ := hr.at (by omega)
        have c2 := hcr k h2
        have hi2 : (k : Int) < (len : Int) := by omega
        have hd : decide ((k : Int) < (len : Int)) = true := by simpa using h2
        have hd2 : decide (len ≤ k) = false := by simpa using h2
        generalize zs.getD k 0 = z at *
        clear hcl hcr e1 hl hr hz
        go_wp2_with fail
        go_quiet (fail)
        go_wp2_with fail
        go_roundw
        case rel => exact ⟨k + 1, _, by omega, by go_num, rfl⟩
        case measure => simp [intOf]; omega
      · have e1 : (zs ++ List.replicate 8 77).getD k 0 = 77 := by
          rw [List.getD_eq_getElem?_getD, List.getElem?_append_right (by omega), List.getElem?_replicate_of_lt (by omega)]; rfl
        rw [e1] at c1
        have hd : decide ((k : Int) < (len : Int)) = false := by simpa using h2
        have hd1 : decide (k < len) = false := by simpa using h2
        have hd2 : decide (len ≤ k) = true := by simpa using h2
        clear hcl e1 hl hr hz
        go_wp2_with fail
        go_quiet (fail)
        go_wp2_with fail
        go_roundw
        case rel => exact ⟨k + 1, _, by omega, by go_num, rfl⟩
        case measure => simp [intOf]; omega
    · go_wp2
      go_ret
      exact ⟨rfl, q, rfl⟩
end Go.Proofs.Ytojhfoojodmmaaa
