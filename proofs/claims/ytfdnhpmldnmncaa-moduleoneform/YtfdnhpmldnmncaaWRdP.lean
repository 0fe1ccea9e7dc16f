/-
  What the reader of wire reads, as a function of the bytes; that it stays within them and within the greatest weight; no conditions.
-/
import Derived.Test.YtfdnhpmldnmncaaMath2
import Derived.Test.YtfdnhpmldnmncaaReads2
import Derived.Test.YtfdnhpmldnmncaaWEnc
namespace Go.Proofs.Ytfdnhpmldnmncaa
open Go.RowKit

/-- how many parts follow -/
def rdCnt (zs : List Int) (q a t k : Nat) : Except (Int × Int) (Nat × Nat) :=
  if (uintAt zs a).2.2 ≠ 0 then .error (41, (a : Int)) else if (2048 - (t : Int)).tdiv k < (uintAt zs a).1 then .error (42, (q : Int)) else .ok ((uintAt zs a).1.toNat, (uintAt zs a).2.1.toNat)

/-- does a key stand not behind the last one? -/
def notBehind (s : ByteArray) : Option ByteArray → Bool
  | none => false
  | some l => Op.bytesLess s.toList l.toList || s.toList == l.toList

def rdKey (zs : List Int) (last : Option ByteArray) (a t : Nat) : Except (Int × Int) (ByteArray × Nat × Nat) :=
  if (textOfU zs 32 (uintAt zs a)).2.2 ≠ 0 then .error (41, (a : Int)) else if notBehind (textOfU zs 32 (uintAt zs a)).1 last = true then .error (41, (a : Int))
  else if 2048 < t + (1 + (textOfU zs 32 (uintAt zs a)).1.size) then .error (42, (a : Int))
  else .ok ((textOfU zs 32 (uintAt zs a)).1, (textOfU zs 32 (uintAt zs a)).2.1.toNat, t + (1 + (textOfU zs 32 (uintAt zs a)).1.size))

/-- so many values more -/
def rdArr (f : Nat → Nat → Except (Int × Int) (Vl × Nat × Nat)) : Nat → List Vl → Nat → Nat → Except (Int × Int) (List Vl × Nat × Nat)
  | 0, l, a, t => .ok (l, a, t)
  | n + 1, l, a, t => match f a t with
    | .error e => .error e
    | .ok (v, a', t') => rdArr f n (l ++ [v]) a' t'

/-- so many keys with their values more -/
def rdRec (zs : List Int) (f : Nat → Nat → Except (Int × Int) (Vl × Nat × Nat)) : Nat → List Vl → List ByteArray → Nat → Nat → Except (Int × Int) (List Vl × List ByteArray × Nat × Nat)
  | 0, l, ks, a, t => .ok (l, ks, a, t)
  | n + 1, l, ks, a, t => match rdKey zs ks.getLast? a t with
    | .error e => .error e
    | .ok (s, a', t') => match f a' t' with
      | .error e => .error e
      | .ok (v, a'', t'') => rdRec zs f n (l ++ [v]) (ks ++ [s]) a'' t''

def rdNum (zs : List Int) (a t : Nat) : Except (Int × Int) (Vl × Nat × Nat) :=
  if (intOfU (uintAt zs a)).2.2 ≠ 0 then .error (41, (a : Int)) else .ok (.mk 2 (intOfU (uintAt zs a)).1 ⟨#[]⟩ [] [], (intOfU (uintAt zs a)).2.1.toNat, t)

def rdTxt (zs : List Int) (q a t : Nat) : Except (Int × Int) (Vl × Nat × Nat) :=
  if (textOfU zs (2048 - (t : Int)) (uintAt zs a)).2.2 = 13 then .error (42, (q : Int)) else if (textOfU zs (2048 - (t : Int)) (uintAt zs a)).2.2 ≠ 0 then .error (41, (a : Int))
  else .ok (.mk 3 0 (textOfU zs (2048 - (t : Int)) (uintAt zs a)).1 [] [], (textOfU zs (2048 - (t : Int)) (uintAt zs a)).2.1.toNat, t + (textOfU zs (2048 - (t : Int)) (uintAt zs a)).1.size)

def rdAll (zs : List Int) (f : Nat → Nat → Except (Int × Int) (Vl × Nat × Nat)) (q a t : Nat) : Except (Int × Int) (Vl × Nat × Nat) :=
  match rdCnt zs q a t 1 with
  | .error e => .error e
  | .ok (n, a') => match rdArr f n [] a' t with
    | .error e => .error e
    | .ok (l, a'', t'') => .ok (.mk 4 0 ⟨#[]⟩ l [], a'', t'')

def rdPairs (zs : List Int) (f : Nat → Nat → Except (Int × Int) (Vl × Nat × Nat)) (q a t : Nat) : Except (Int × Int) (Vl × Nat × Nat) :=
  match rdCnt zs q a t 2 with
  | .error e => .error e
  | .ok (n, a') => match rdRec zs f n [] [] a' t with
    | .error e => .error e
    | .ok (l, ks, a'', t'') => .ok (.mk 5 0 ⟨#[]⟩ l ks, a'', t'')

/-- the value at a place, and the place behind it and the weight with it -/
def rdV (zs : List Int) : Nat → Nat → Nat → Except (Int × Int) (Vl × Nat × Nat)
  | 0, a, _ => match zs[a]? with
    | none => .error (41, (a : Int))
    | some c => if 6 < c then .error (41, (a : Int)) else .error (42, (a : Int))
  | d + 1, a, t => match zs[a]? with
    | none => .error (41, (a : Int))
    | some c => if 6 < c then .error (41, (a : Int)) else if 2048 < t + 1 then .error (42, (a : Int))
      else if c = 1 then .ok (.mk 1 0 ⟨#[]⟩ [] [], a + 1, t + 1) else if c = 2 then .ok (.mk 1 1 ⟨#[]⟩ [] [], a + 1, t + 1)
      else if c = 3 then rdNum zs (a + 1) (t + 1) else if c = 4 then rdTxt zs a (a + 1) (t + 1)
      else if c = 5 then rdAll zs (rdV zs d) a (a + 1) (t + 1) else if c = 6 then rdPairs zs (rdV zs d) a (a + 1) (t + 1)
      else .ok (.mk 0 0 ⟨#[]⟩ [] [], a + 1, t + 1)

theorem str_nums (xs : List Int) (h : ∀ n ∈ xs, 0 ≤ n ∧ n ≤ 255) : nums (strOfNums xs) = xs :=
  str_inj _ _ (nums_small _) h (nums_str _)
theorem str_size (xs : List Int) (h : ∀ n ∈ xs, 0 ≤ n ∧ n ≤ 255) : (strOfNums xs).size = xs.length := by
  rw [← nums_len, str_nums xs h]

/-- what a text that was read is -/
theorem text_form (zs : List Int) (most : Int) (a : Nat) (hl : ∀ n ∈ zs, 0 ≤ n ∧ n ≤ 255) (h : (textOfU zs most (uintAt zs a)).2.2 = 0) :
    ∃ b : Nat, a ≤ b ∧ b ≤ zs.length ∧ (textOfU zs most (uintAt zs a)).2.1 = (b : Int) ∧ ((textOfU zs most (uintAt zs a)).1.size : Int) ≤ most ∧ tx (textOfU zs most (uintAt zs a)).1 = (zs.drop a).take (b - a) := by
  unfold textOfU at h ⊢
  by_cases h0 : (uintAt zs a).2.2 ≠ 0
  · rw [if_pos h0] at h; exact absurd h h0
  rw [if_neg h0] at h ⊢
  by_cases h1 : most < 0 ∨ most < (uintAt zs a).1
  · rw [if_pos h1] at h; simp at h
  rw [if_neg h1] at h ⊢
  by_cases h2 : (zs.length : Int) - (uintAt zs a).2.1 < (uintAt zs a).1
  · rw [if_pos h2] at h; simp at h
  rw [if_neg h2]
  obtain ⟨a', k, e, hk1, hk2, hk3, hn, henc, hpos⟩ := uint_form zs a hl (by simpa using h0)
  have ea : a' = a := by omega
  subst ea
  generalize hu : uintAt zs a' = r at *
  obtain ⟨n, nx, er⟩ := r
  dsimp only at *
  subst hn
  obtain ⟨N, rfl⟩ : ∃ N : Nat, n = N := ⟨n.toNat, by omega⟩
  have hlen : ((zs.drop (a' + k)).take N).length = N := by rw [List.length_take, List.length_drop]; omega
  have hsm : ∀ c ∈ (zs.drop (a' + k)).take N, 0 ≤ c ∧ c ≤ 255 := fun c hc => hl c (List.mem_of_mem_drop (List.mem_of_mem_take hc))
  have hsz : (strOfNums ((zs.drop (a' + k)).take N)).size = N := by rw [str_size _ hsm, hlen]
  refine ⟨a' + k + N, by omega, by omega, by simp, by simp only [Int.toNat_natCast]; rw [hsz]; omega, ?_⟩
  simp only [Int.toNat_natCast]
  unfold tx
  rw [hsz, henc, str_nums _ hsm, show a' + k + N - a' = k + N by omega]
  rw [List.take_add, List.drop_drop]
end Go.Proofs.Ytfdnhpmldnmncaa
