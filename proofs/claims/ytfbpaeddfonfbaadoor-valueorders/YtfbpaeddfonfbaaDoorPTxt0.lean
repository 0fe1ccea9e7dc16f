/-
  A value's text, as a function; no conditions.
-/
import Derived.Test.YtfbpaeddfonfbaaDoorPDig
import Derived.Test.YtfbpaeddfonfbaaDoorPQuo
import Derived.Test.YtfbpaeddfonfbaaDoorVMeas
namespace Go.Proofs.YtfbpaeddfonfbaaDoor
open Go.RowKit
set_option linter.unusedVariables false
set_option linter.unusedSimpArgs false

def quoteU (s : ByteArray) : List UInt8 := (strOfNums (quoteI s)).data.toList

/-- a value's text, what stands within it known -/
def oneT (k n : Int) (s : ByteArray) (body : List UInt8) : List UInt8 :=
  if k = 0 then [117, 110, 105, 116] else if k = 1 then (if n = 1 then [116, 114, 117, 101] else [102, 97, 108, 115, 101]) else if k = 2 then Lib.itoa n else if k = 3 then quoteU s else if k = 5 then 123 :: body ++ [125] else 91 :: body ++ [93]

/-- what stands ahead of an element -/
def headT (r first : Bool) (kk : List ByteArray) : List UInt8 := (if first = true then [] else [44, 32]) ++ (if r = true then quoteU (kk.headD ⟨#[]⟩) ++ [58, 32] else [])

def txtL (r : Bool) : List Vl → List ByteArray → Bool → List UInt8
  | [], _, _ => []
  | .mk k n s l ks :: q, kk, first => headT r first kk ++ oneT k n s (txtL (decide (k = 5)) l ks true) ++ txtL r q kk.tail false
def txt : Vl → List UInt8
  | .mk k n s l ks => oneT k n s (txtL (decide (k = 5)) l ks true)

theorem txtL_cons (r : Bool) (y : Vl) (q : List Vl) (kk : List ByteArray) (first : Bool) : txtL r (y :: q) kk first = headT r first kk ++ txt y ++ txtL r q kk.tail false := by
  cases y
  simp only [txtL, txt]

theorem txtL_snoc (r : Bool) (y : Vl) : ∀ (a : List Vl) (kk : List ByteArray) (first : Bool), txtL r (a ++ [y]) kk first = txtL r a kk first ++ (headT r (first && a.isEmpty) (kk.drop a.length) ++ txt y)
  | [], kk, first => by rw [List.nil_append, txtL_cons]; simp [txtL]
  | x :: a, kk, first => by
    rw [List.cons_append, txtL_cons, txtL_snoc r y a kk.tail false, txtL_cons]
    simp [List.append_assoc]

theorem txtL_next (r : Bool) (l : List Vl) (ks : List ByteArray) (i : Nat) (y : Vl) (h : l[i]? = some y) : txtL r (l.take (i + 1)) ks true = txtL r (l.take i) ks true ++ (headT r (decide (i = 0)) (ks.drop i) ++ txt y) := by
  have hi := (List.getElem?_eq_some_iff.1 h).1
  have hl : (l.take i).length = i := by rw [List.length_take]; omega
  rw [List.take_add_one, h]
  show txtL r (l.take i ++ [y]) ks true = _
  rw [txtL_snoc, hl]
  congr 3
  cases i with
  | zero => rfl
  | succ i =>
    cases l with
    | nil => simp at h
    | cons x l => simp

theorem quoI_len (s : ByteArray) : ∀ i, (quoI s i).length ≤ 1 + 4 * i
  | 0 => by simp [quoI]
  | i + 1 => by
    by_cases h : i < s.size
    · rw [quo_next s i h, List.length_append]
      have h1 := quoI_len s i
      have h2 := qI_len ((s[i]'h).toNat : Int)
      omega
    · have h1 := quoI_len s i
      have e : quoI s (i + 1) = quoI s i := by
        have hz : s.data.toList.length = s.size := rfl
        unfold quoI
        rw [List.take_of_length_le (by omega), List.take_of_length_le (by omega)]
      rw [e]
      omega

theorem quoteU_len (s : ByteArray) : (quoteU s).length ≤ 2 + 4 * s.size := by
  unfold quoteU
  rw [strOfNums_data, List.length_map]
  unfold quoteI
  have := quoI_len s s.size
  rw [List.length_append]
  simp
  omega

theorem itoa_len (n : Int) (h1 : -9223372036854775808 ≤ n) (h2 : n ≤ 9223372036854775807) : (Lib.itoa n).length ≤ 21 := by
  unfold Lib.itoa
  split
  · have := dec_len (u := n.natAbs) (by omega)
    simp
    omega
  · have := dec_len (u := n.toNat) (by omega)
    omega

theorem str_size (s : ByteArray) : s.size = s.data.toList.length := rfl
end Go.Proofs.YtfbpaeddfonfbaaDoor
