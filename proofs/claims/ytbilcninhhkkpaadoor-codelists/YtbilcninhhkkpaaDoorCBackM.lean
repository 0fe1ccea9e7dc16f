/-
  What bytes of instructions tell when they are read (layer 8): as functions; no conditions.
-/
import Derived.Test.YtbilcninhhkkpaaDoorCList
namespace Go.Proofs.YtbilcninhhkkpaaDoor
open Go.RowKit

theorem byt_mid (pre suf : List Int) (c : Int) (j : Nat) (l : List Int) (h : l[j]? = some c) : byt (pre ++ l ++ suf) (pre.length + j) = c := by
  have hj := (List.getElem?_eq_some_iff.1 h).1
  unfold byt
  rw [List.getD_eq_getElem?_getD, List.append_assoc, List.getElem?_append_right (by omega), Nat.add_sub_cancel_left, List.getElem?_append_left hj, h]
  rfl

/-- an instruction is read where its bytes stand -/
theorem take_mid (pre suf : List Int) (op a : Int) (hf : faultI op a = 0) : takeI (pre ++ insB op a ++ suf) (pre.length : Int) = (op, a, ((pre.length + (insB op a).length : Nat) : Int), 0) := by
  have hfo := fault_ok hf
  have hoo := opd_at (srt op) (srt_is op hfo.1).2
  have hlen := insB_len op a hf
  have h0 : byt (pre ++ insB op a ++ suf) pre.length = op := by
    have := byt_mid pre suf op 0 (insB op a) rfl
    rw [Nat.add_zero] at this
    exact this
  have hv : valB (pre ++ insB op a ++ suf) pre.length (siz (srt op)) = a := by
    have hib : insB op a = op :: tailB a (siz (srt op)) := rfl
    generalize siz (srt op) = S at *
    match S, hoo.2.1 with
    | 0, _ =>
      have := hoo.2.2.2.2.1 rfl
      show (0 : Int) = a
      omega
    | 1, _ =>
      have := hoo.2.2.2.2.2 rfl
      show byt _ (pre.length + 1) = a
      rw [byt_mid pre suf (a % 256) 1 (insB op a) (by rw [hib]; rfl)]
      omega
    | 2, _ =>
      show byt _ (pre.length + 1) * 256 + byt _ (pre.length + 2) = a
      rw [byt_mid pre suf (a / 256) 1 (insB op a) (by rw [hib]; rfl), byt_mid pre suf (a % 256) 2 (insB op a) (by rw [hib]; rfl)]
      omega
  unfold takeI
  rw [Int.toNat_natCast, h0, hv, if_neg (by simp only [List.length_append]; omega), if_pos hfo.1, if_neg (by simp only [List.length_append]; omega), if_pos hf]
  simp only [Prod.mk.injEq, true_and, and_true]
  omega

/-- where each instruction begins -/
def plc : Nat → List Ins → List Int
  | _, [] => []
  | p, x :: r => (p : Int) :: plc (p + (insB x.1 x.2).length) r

theorem plc_len : ∀ (ls : List Ins) (p : Nat), (plc p ls).length = ls.length
  | [], _ => rfl
  | x :: r, p => by simp [plc, plc_len r]

theorem plc_at : ∀ (ls : List Ins) (p i : Nat), i < ls.length → (plc p ls)[i]? = some ((p + (bytesL (ls.take i)).length : Nat) : Int)
  | [], _, i, h => by simp at h
  | x :: r, p, 0, _ => by simp [plc, bytesL]
  | x :: r, p, i + 1, h => by
    have ih := plc_at r (p + (insB x.1 x.2).length) i (by simpa using h)
    simp only [plc, List.getElem?_cons_succ, ih, List.take_succ_cons]
    have e : bytesL (x :: r.take i) = insB x.1 x.2 ++ bytesL (r.take i) := by simp [bytesL]
    rw [e, List.length_append]
    congr 2
    omega

theorem lst_bytes : ∀ (ls : List Ins) (pre : List Int) (f : Nat), bytesF ls = 0 → ls.length ≤ f → lst (pre ++ bytesL ls) f pre.length = (ls, plc pre.length ls, 0, 0) ∧ cnt (pre ++ bytesL ls) f pre.length = ls.length
  | [], pre, f, _, _ => by
    have e : pre ++ bytesL [] = pre := by simp [bytesL]
    rw [e]
    cases f with
    | zero => exact ⟨rfl, rfl⟩
    | succ f => exact ⟨by unfold lst; rw [if_pos (Nat.le_refl _)]; rfl, by unfold cnt; rw [if_pos (Nat.le_refl _)]; rfl⟩
  | x :: r, pre, f, hf, hl => by
    obtain ⟨f, rfl⟩ : ∃ f', f = f' + 1 := ⟨f - 1, by simp at hl; omega⟩
    have hx := (bytesF_zero (x :: r)).1 hf x (by simp)
    have hr : bytesF r = 0 := (bytesF_zero r).2 fun p hp => (bytesF_zero (x :: r)).1 hf p (by simp [hp])
    have e : pre ++ bytesL (x :: r) = (pre ++ insB x.1 x.2) ++ bytesL r := by simp [bytesL]
    have ht := take_mid pre (bytesL r) x.1 x.2 hx
    have ih := lst_bytes r (pre ++ insB x.1 x.2) f hr (by simpa using hl)
    have hne : ¬ (pre ++ insB x.1 x.2 ++ bytesL r).length ≤ pre.length := by
      have := (insB_len3 x.1 x.2).1
      simp only [List.length_append]
      omega
    rw [e]
    rw [List.length_append] at ih
    constructor
    · unfold lst
      rw [if_neg hne, ht]
      simp only [Int.toNat_natCast]
      rw [ih.1]
      simp [glue, plc]
    · unfold cnt
      rw [if_neg hne, ht]
      simp only [Int.toNat_natCast]
      rw [ih.2]
      simp
      omega

theorem own_rowI {w : World} {base n : Nat} {ao : Option Addr} {len cap : Nat} {zs : List Int} (h : w.ownsRow base 3 1 (.slice ao len cap) n (zs.map (Value.int .i64))) : RowI w ao len zs ∧ len = n := by
  have h1 := h.1
  rw [List.length_map, Nat.mul_one] at h1
  rcases h.2 with ⟨e, e2⟩ | ⟨g, c, cur, e, _⟩
  · cases e
    subst e2
    have : zs = [] := List.eq_nil_of_length_eq_zero h1
    subst this
    exact ⟨⟨rfl, fun j p h => by simp at h⟩, rfl⟩
  · cases e
    refine ⟨⟨h1, fun j p hp => ⟨g, 0, rfl, ?_⟩⟩, rfl⟩
    have hg := h.cells (g := g) rfl j (.int .i64 p) (by rw [List.getElem?_map, hp]; rfl)
    have ha : (⟨g, 0, none⟩ : Addr).add j = ⟨g, j, none⟩ := by unfold Addr.add; split <;> simp_all
    rw [ha] at hg
    rw [Nat.zero_add]
    exact hg
end Go.Proofs.YtbilcninhhkkpaaDoor
