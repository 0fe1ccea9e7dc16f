/-
  A value's text, as a function; no conditions.
  How a text is told byte by byte, and what a range over its runes meets; no conditions.
-/
import Derived.Test.YtjkfkneibcjgaaaGreatDoorA31
import Derived.Test.YtjkfkneibcjgaaaGreatDoorA32
import Derived.Test.YtjkfkneibcjgaaaGreatDoorA03
import Derived.Laws.RangeAny
set_option linter.unusedVariables false
set_option linter.unusedSimpArgs false
namespace Go.Proofs.YtjkfkneibcjgaaaGreatDoor
open Go.RowKit
set_option linter.unusedVariables false
set_option linter.unusedSimpArgs false

def quoteU (s : ByteArray) : List UInt8 := (strOfNums (quoteI s)).data.toList

/-- a value's text, what stands within it known -/
def oneT (k n : Int) (s : ByteArray) (body : List UInt8) : List UInt8 :=
  if k = 0 then [117, 110, 105, 116] else if k = 1 then (if n = 1 then [116, 114, 117, 101] else [102, 97, 108, 115, 101]) else if k = 2 then Lib.itoa n else if k = 3 then quoteU s else if k = 5 then 123 :: body ++ [125] else 91 :: body ++ [93]

/-- what stands ahead of an element -/
def headT (r first : Bool) (kk : List ByteArray) : List UInt8 := (if first = true then [] else [44, 32]) ++ (if r = true then quoteU (kk.headD ⟨#[]⟩) ++ [58, 32] else [])

def txtL (r : Bool) : List Vl → List ByteArray → Bool → List UInt8
  | [], _, _ => []
  | .mk k n s l ks :: q, kk, first => headT r first kk ++ oneT k n s (txtL (decide (k = 5)) l ks true) ++ txtL r q kk.tail false
def txt : Vl → List UInt8
  | .mk k n s l ks => oneT k n s (txtL (decide (k = 5)) l ks true)

theorem txtL_cons (r : Bool) (y : Vl) (q : List Vl) (kk : List ByteArray) (first : Bool) : txtL r (y :: q) kk first = headT r first kk ++ txt y ++ txtL r q kk.tail false := by
  cases y
  simp only [txtL, txt]

theorem txtL_snoc (r : Bool) (y : Vl) : ∀ (a : List Vl) (kk : List ByteArray) (first : Bool), txtL r (a ++ [y]) kk first = txtL r a kk first ++ (headT r (first && a.isEmpty) (kk.drop a.length) ++ txt y)
  | [], kk, first => by rw [List.nil_append, txtL_cons]; simp [txtL]
  | x :: a, kk, first => by
    rw [List.cons_append, txtL_cons, txtL_snoc r y a kk.tail false, txtL_cons]
    simp [List.append_assoc]

theorem txtL_next (r : Bool) (l : List Vl) (ks : List ByteArray) (i : Nat) (y : Vl) (h : l[i]? = some y) : txtL r (l.take (i + 1)) ks true = txtL r (l.take i) ks true ++ (headT r (decide (i = 0)) (ks.drop i) ++ txt y) := by
  have hi := (List.getElem?_eq_some_iff.1 h).1
  have hl : (l.take i).length = i := by rw [List.length_take]; omega
  rw [List.take_add_one, h]
  show txtL r (l.take i ++ [y]) ks true = _
  rw [txtL_snoc, hl]
  congr 3
  cases i with
  | zero => rfl
  | succ i =>
    cases l with
    | nil => simp at h
    | cons x l => simp

theorem quoI_len (s : ByteArray) : ∀ i, (quoI s i).length ≤ 1 + 4 * i
  | 0 => by simp [quoI]
  | i + 1 => by
    by_cases h : i < s.size
    · rw [quo_next s i h, List.length_append]
      have h1 := quoI_len s i
      have h2 := qI_len ((s[i]'h).toNat : Int)
      omega
    · have h1 := quoI_len s i
      have e : quoI s (i + 1) = quoI s i := by
        have hz : s.data.toList.length = s.size := rfl
        unfold quoI
        rw [List.take_of_length_le (by omega), List.take_of_length_le (by omega)]
      rw [e]
      omega

theorem quoteU_len (s : ByteArray) : (quoteU s).length ≤ 2 + 4 * s.size := by
  unfold quoteU
  rw [strOfNums_data, List.length_map]
  unfold quoteI
  have := quoI_len s s.size
  rw [List.length_append]
  simp
  omega

theorem itoa_len (n : Int) (h1 : -9223372036854775808 ≤ n) (h2 : n ≤ 9223372036854775807) : (Lib.itoa n).length ≤ 21 := by
  unfold Lib.itoa
  split
  · have := dec_len (u := n.natAbs) (by omega)
    simp
    omega
  · have := dec_len (u := n.toNat) (by omega)
    omega

theorem str_size (s : ByteArray) : s.size = s.data.toList.length := rfl
end Go.Proofs.YtjkfkneibcjgaaaGreatDoor

namespace Go.Proofs.YtjkfkneibcjgaaaGreatDoor
open Go.RowKit
set_option linter.unusedVariables false
set_option linter.unusedSimpArgs false

def by8 (n : Int) : UInt8 := UInt8.ofNat n.toNat
def qU (c : UInt8) : List UInt8 := (qI (c.toNat : Int)).map by8
def numU (c : UInt8) : List UInt8 := [92, 120, by8 (hxI ((c.toNat : Int) / 16)), by8 (hxI ((c.toNat : Int) % 16))]

theorem map_flat {α β γ : Type} (f : β → γ) (g : α → List β) : ∀ l : List α, (l.flatMap g).map f = l.flatMap fun a => (g a).map f
  | [] => rfl
  | a :: l => by rw [List.flatMap_cons, List.map_append, map_flat f g l, List.flatMap_cons]

theorem quoteU_eq (s : ByteArray) : quoteU s = 34 :: s.data.toList.flatMap qU ++ [34] := by
  unfold quoteU strOfNums quoteI quoI
  have e : (s.data.toList.take s.size) = s.data.toList := List.take_of_length_le (Nat.le_refl _)
  rw [e]
  show List.map _ (34 :: _ ++ [34]) = _
  rw [List.map_append, List.map_cons, map_flat]
  rfl

theorem qU_num (c : UInt8) (h : c.toNat < 32 ∨ 126 < c.toNat) : qU c = numU c := by
  unfold qU qI
  rw [if_neg (by omega), if_neg (by omega)]
  rfl

theorem qU_esc (c : UInt8) (h : c.toNat = 34 ∨ c.toNat = 92) : qU c = [92, c] := by
  unfold qU qI
  rw [if_pos (by omega)]
  simp [by8]

theorem qU_own (c : UInt8) (h0 : 32 ≤ c.toNat) (h1 : c.toNat ≤ 126) (h2 : c.toNat ≠ 34) (h3 : c.toNat ≠ 92) : qU c = [c] := by
  unfold qU qI
  rw [if_neg (by omega), if_pos (by omega)]
  simp [by8]

theorem flat_num {l : List UInt8} (h : ∀ c ∈ l, c.toNat < 32 ∨ 126 < c.toNat) : l.flatMap numU = l.flatMap qU := by
  induction l with
  | nil => rfl
  | cons c l ih => rw [List.flatMap_cons, List.flatMap_cons, ih (fun c hc => h c (List.mem_cons_of_mem _ hc)), qU_num c (h c (List.mem_cons_self ..))]

theorem flat_num_len (l : List UInt8) : (l.flatMap numU).length = 4 * l.length := by
  induction l with
  | nil => rfl
  | cons c l ih => rw [List.flatMap_cons, List.length_append, ih, List.length_cons]; simp [numU]; omega

theorem qU_len (c : UInt8) : (qU c).length ≤ 4 := by
  unfold qU
  rw [List.length_map]
  exact qI_len _

theorem flat_q_len (l : List UInt8) : (l.flatMap qU).length ≤ 4 * l.length := by
  induction l with
  | nil => exact Nat.le_refl _
  | cons c l ih =>
    rw [List.flatMap_cons, List.length_append, List.length_cons]
    have := qU_len c
    omega

theorem get_bang (s : ByteArray) (j : Nat) (h : j < s.size) : s.get! j = s[j]'h := by
  have := get_at s j h
  simpa using this

/-- what a rune of a text is made of -/
theorem rune_of (s : ByteArray) (pos : Nat) (h : pos < s.size) :
    ((s[pos]'h).toNat < 128 ∧ Utf8.decode s pos = ((s[pos]'h).toNat, 1)) ∨
    (128 ≤ (Utf8.decode s pos).1 ∧ 1 ≤ (Utf8.decode s pos).2 ∧ pos + (Utf8.decode s pos).2 ≤ s.size ∧ ∀ j, pos ≤ j → j < pos + (Utf8.decode s pos).2 → 128 ≤ (s.get! j).toNat) := by
  by_cases ha : (s[pos]'h).toNat < 128
  · exact .inl ⟨ha, decode_ascii s pos h ha⟩
  · right
    have hg : (s.get! pos).toNat = (s[pos]'h).toNat := by rw [get_bang s pos h]
    have h0 : 128 ≤ (s.get! pos).toNat := by omega
    refine ⟨(decode_high s pos h (by omega)).1, (decode_high s pos h (by omega)).2, ?_⟩
    have one : pos + 1 ≤ s.size ∧ ∀ j, pos ≤ j → j < pos + 1 → 128 ≤ (s.get! j).toNat := ⟨by omega, fun j h1 h2 => (show j = pos by omega) ▸ h0⟩
    have c1 : ∀ k, (decide (pos + k < s.size) && ((s.get! (pos + k)).toNat / 64 == 2)) = true → pos + k < s.size ∧ 128 ≤ (s.get! (pos + k)).toNat := fun k hk => by
      rw [Bool.and_eq_true, decide_eq_true_eq, beq_iff_eq] at hk
      exact ⟨hk.1, by omega⟩
    simp only [Utf8.decode, Nat.add_zero]
    rw [if_neg (by omega)]
    split
    · rename_i h1
      rw [Bool.and_eq_true] at h1
      have a1 := c1 1 h1.2
      split
      · refine ⟨by omega, fun j g1 g2 => ?_⟩
        have hj : j = pos ∨ j = pos + 1 := by simp at g2; omega
        rcases hj with rfl | rfl
        · exact h0
        · exact a1.2
      · exact one
    · split
      · rename_i h1
        rw [Bool.and_eq_true, Bool.and_eq_true] at h1
        have a1 := c1 1 h1.1.2
        have a2 := c1 2 h1.2
        split
        · refine ⟨by omega, fun j g1 g2 => ?_⟩
          have hj : j = pos ∨ j = pos + 1 ∨ j = pos + 2 := by simp at g2; omega
          rcases hj with rfl | rfl | rfl
          · exact h0
          · exact a1.2
          · exact a2.2
        · exact one
      · split
        · rename_i h1
          rw [Bool.and_eq_true, Bool.and_eq_true, Bool.and_eq_true] at h1
          have a1 := c1 1 h1.1.1.2
          have a2 := c1 2 h1.1.2
          have a3 := c1 3 h1.2
          split
          · refine ⟨by omega, fun j g1 g2 => ?_⟩
            have hj : j = pos ∨ j = pos + 1 ∨ j = pos + 2 ∨ j = pos + 3 := by simp at g2; omega
            rcases hj with rfl | rfl | rfl | rfl
            · exact h0
            · exact a1.2
            · exact a2.2
            · exact a3.2
          · exact one
        · exact one

/-- the bytes of a text that are not told as they are -/
def Odd (s : ByteArray) (a b : Nat) : Prop := ∀ j, a ≤ j → j < b → (s.get! j).toNat < 32 ∨ 126 < (s.get! j).toNat

theorem piece_list (s : ByteArray) (a b : Nat) : (s.extract a b).data.toList = (s.data.toList.take b).drop a := by
  rw [ByteArray.data_extract, Array.toList_extract, List.extract_eq_take_drop, List.drop_take]

theorem get_list (s : ByteArray) (j : Nat) (c : UInt8) (h : s.data.toList[j]? = some c) : s.get! j = c := by
  rw [Array.getElem?_toList] at h
  have hj : j < s.size := (Array.getElem?_eq_some_iff.1 h).1
  rw [get_bang s j hj]
  exact (Array.getElem?_eq_some_iff.1 h).2

theorem odd_piece {s : ByteArray} {a b : Nat} (h : Odd s a b) (hab : a ≤ b) (hb : b ≤ s.size) : (s.data.toList.take a).flatMap qU ++ (s.extract a b).data.toList.flatMap numU = (s.data.toList.take b).flatMap qU := by
  rw [flat_num, piece_list, ← List.flatMap_append]
  · congr 1
    have e : s.data.toList.take a = (s.data.toList.take b).take a := by rw [List.take_take, Nat.min_eq_left hab]
    rw [e, List.take_append_drop]
  · intro c hc
    rw [piece_list] at hc
    obtain ⟨i, hi⟩ := List.mem_iff_getElem?.1 hc
    rw [List.getElem?_drop, List.getElem?_take] at hi
    split at hi
    · rename_i hlt
      have := h (a + i) (by omega) hlt
      rw [get_list s _ c hi] at this
      exact this
    · cases hi

theorem take_one (s : ByteArray) (p : Nat) (h : p < s.size) : (s.data.toList.take (p + 1)).flatMap qU = (s.data.toList.take p).flatMap qU ++ qU (s[p]'h) := by
  have e : s.data.toList[p]? = some (s[p]'h) := by rw [Array.getElem?_toList]; exact Array.getElem?_eq_getElem h
  rw [List.take_add_one, e, List.flatMap_append]
  simp
end Go.Proofs.YtjkfkneibcjgaaaGreatDoor
