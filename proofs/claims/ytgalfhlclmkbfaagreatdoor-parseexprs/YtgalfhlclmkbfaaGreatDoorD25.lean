/-
  The walks of the document's piece, number, quoted (layer 16); conditions: a text of at most 8192 bytes.
-/
import Derived.Test.YtgalfhlclmkbfaaGreatDoorD24
import Derived.Test.YtgalfhlclmkbfaaGreatDoorD06
set_option linter.unusedVariables false
set_option linter.unusedSimpArgs false
namespace Go.Proofs.YtgalfhlclmkbfaaGreatDoor
open Go.RowKit
set_option linter.unusedVariables false
set_option linter.unusedSimpArgs false
set_option maxRecDepth 100000 in
set_option maxHeartbeats 1000000 in
theorem pieceD_any (s : ByteArray) (a : Nat) (h0 : a < s.size) (h34 : ¬ (s[a]'h0).toNat = 34) (hs : s.size ≤ 8192) (w : World) :
  Calls Tryz.prog 86 #[.string s, .int .i64 (a : Int)] w fun e w' => e = .returned (pcV (pcL (s.data.toList.drop a))) ∧ w' = w := by
 have hs2 : (s.size : Int) ≤ 8192 := by omega
 have ha2 : (a : Int) < (s.size : Int) := by omega
 have hd0 := drop_at s a h0
 obtain ⟨c, hc⟩ : ∃ c, s[a]'h0 = c := ⟨_, rfl⟩
 rw [hc] at hd0 h34
 obtain ⟨z, hz⟩ : ∃ z : Nat, c.toNat = z := ⟨_, rfl⟩
 have hzi : ((s[a]'h0).toNat : Int) = (z : Int) := by rw [hc, hz]
 have hcz : (c.toNat : Int) = (z : Int) := by rw [hz]
 have z1 : (z : Int) ≤ 255 := by have := c.toNat_lt; omega
 have m1 : ((z : Int) == 34) = false := beq_eq_false_iff_ne.2 (by omega)
 have m2 : ¬ (z : Int) = 34 := by omega
 obtain ⟨b1, hb1⟩ : ∃ b, a + 1 = b := ⟨_, rfl⟩
 obtain ⟨b2, hb2⟩ : ∃ b, a + 2 = b := ⟨_, rfl⟩
 obtain ⟨b3, hb3⟩ : ∃ b, a + 3 = b := ⟨_, rfl⟩
 have e1 : (a : Int) + 1 = (b1 : Int) := by omega
 have e2 : (a : Int) + 2 = (b2 : Int) := by omega
 have e3 : (a : Int) + 3 = (b3 : Int) := by omega
 obtain ⟨R, hR⟩ : ∃ R, pcL (s.data.toList.drop a) = R := ⟨_, rfl⟩
 have hR2 := hR
 rw [hd0, pcL_cons, hz, hb1] at hR2
 rw [hR]
 have HB := hide (And.intro hb1 (And.intro hb2 hb3))
 clear hR hd0 h34
 by_cases hb : z < 32 ∨ 126 < z
 ·rw [if_pos hb] at hR2
  subst hR2
  unfold pcV
  clear hc hz hb1 hb2 hb3
  rcases hb with g | g
  ·have i1 : (z : Int) < 32 := by omega
   go_enter Tryz.func86, Tryz.ntmps86
   go_wp2_with fail
   go_ret2
   exact ⟨rfl, rfl⟩
  ·have i0 : ¬ (z : Int) < 32 := by omega
   have i1 : (126 : Int) < (z : Int) := by omega
   go_enter Tryz.func86, Tryz.ntmps86
   go_wp2_with fail
   go_ret2
   exact ⟨rfl, rfl⟩
 rw [if_neg hb] at hR2
 have i0 : ¬ (z : Int) < 32 := by omega
 have i1 : ¬ (126 : Int) < (z : Int) := by omega
 by_cases h92 : ¬ z = 92
 ·rw [if_neg h92] at hR2
  subst hR2
  rw [pcV_some, hcz]
  have i2 : ((z : Int) == 92) = false := beq_eq_false_iff_ne.2 (by omega)
  have i3 : ¬ (z : Int) = 92 := by omega
  have i4 : ((z : Int) != 92) = true := by simp [i3]
  clear hc hz hb1 hb2 hb3
  go_enter Tryz.func86, Tryz.ntmps86
  go_wp2_with fail
  go_ret2
  exact ⟨rfl, rfl⟩
 replace h92 : z = 92 := Decidable.of_not_not h92
 rw [if_pos h92] at hR2
 have i2 : ((z : Int) == 92) = true := beq_iff_eq.2 (by omega)
 have i4 : ((z : Int) != 92) = false := by simp [show (z : Int) = 92 by omega]
 clear hc hcz
 by_cases hn2 : ¬ b1 < s.size
 ·have q1 : s.data.toList.drop b1 = [] := List.drop_of_length_le (by rw [len_list]; omega)
  rw [q1] at hR2
  have hR3 : R = none := hR2.symm
  subst hR3
  unfold pcV
  have j1 : ¬ (b1 : Int) < (s.size : Int) := by omega
  have j2 : ¬ (b3 : Int) < (s.size : Int) := by omega
  clear hR2 h92 hz hb1 hb2 hb3 hn2 q1
  go_enter Tryz.func86, Tryz.ntmps86
  go_wp2_with fail
  go_ret2
  exact ⟨rfl, rfl⟩
 have hlt1 : b1 < s.size := Decidable.of_not_not hn2
 have hd1 := drop_at s b1 hlt1
 obtain ⟨d, hd⟩ : ∃ d, s[b1]'hlt1 = d := ⟨_, rfl⟩
 rw [hd] at hd1
 obtain ⟨y, hy⟩ : ∃ y : Nat, d.toNat = y := ⟨_, rfl⟩
 have hyi : ((s[b1]'hlt1).toNat : Int) = (y : Int) := by rw [hd, hy]
 have hdy : (d.toNat : Int) = (y : Int) := by rw [hy]
 have y1 : (y : Int) ≤ 255 := by have := d.toNat_lt; omega
 have j1 : (b1 : Int) < (s.size : Int) := by omega
 rw [hd1, escP_cons, hy, show b1 + 1 = b2 by omega] at hR2
 by_cases hq : y = 34 ∨ y = 92
 ·rw [if_pos hq] at hR2
  subst hR2
  rw [pcV_some, hdy]
  clear h92 hd hd1 hb1 hb2 hb3 hz hn2
  rcases hq with g | g
  ·have k1 : ((y : Int) == 34) = true := beq_iff_eq.2 (by omega)
   have k2 : (y : Int) = 34 := by omega
   rw [k2]
   rw [k2] at hyi
   clear k2 hy hdy g k1 y1
   go_enter Tryz.func86, Tryz.ntmps86
   go_wp2_with fail
   go_ret2
   exact ⟨rfl, rfl⟩
  ·have k2 : (y : Int) = 92 := by omega
   rw [k2]
   rw [k2] at hyi
   clear k2 hy hdy g y1
   go_enter Tryz.func86, Tryz.ntmps86
   go_wp2_with fail
   go_ret2
   exact ⟨rfl, rfl⟩
 rw [if_neg hq] at hR2
 have k1 : ((y : Int) == 34) = false := beq_eq_false_iff_ne.2 (by omega)
 have k2 : ((y : Int) == 92) = false := beq_eq_false_iff_ne.2 (by omega)
 have k3 : ¬ (y : Int) = 34 := by omega
 have k4 : ¬ (y : Int) = 92 := by omega
 clear hd hd1 hdy
 by_cases hx : ¬ y = 120
 ·rw [if_neg hx] at hR2
  subst hR2
  unfold pcV
  have k5 : ((y : Int) == 120) = false := beq_eq_false_iff_ne.2 (by omega)
  have k6 : ¬ (y : Int) = 120 := by omega
  clear h92 hb1 hb2 hb3 hz hn2 hy
  by_cases hn4 : (b3 : Int) < (s.size : Int)
  all_goals
   go_enter Tryz.func86, Tryz.ntmps86
   go_wp2_with fail
   go_ret2
   exact ⟨rfl, rfl⟩
 replace hx : y = 120 := Decidable.of_not_not hx
 rw [if_pos hx] at hR2
 have k6 : (y : Int) = 120 := by omega
 rw [k6] at hyi
 clear k1 k2 k3 k4 k6 y1
 by_cases hn4 : ¬ b3 < s.size
 ·have q1 : hexP (s.data.toList.drop b2) = none := by
   have hl : (s.data.toList.drop b2).length = s.size - b2 := by rw [List.length_drop, len_list]
   match s.data.toList.drop b2, hl with
   |[], _ => rfl
   |[_], _ => rfl
   |_ :: _ :: _, hl => simp at hl; omega
  rw [q1] at hR2
  subst hR2
  unfold pcV
  have j2 : ¬ (b3 : Int) < (s.size : Int) := by omega
  clear h92 hb1 hb2 hb3 hz hn2 hy hx hn4 q1
  go_enter Tryz.func86, Tryz.ntmps86
  go_wp2_with fail
  go_ret2
  exact ⟨rfl, rfl⟩
 have hlt3 : b3 < s.size := Decidable.of_not_not hn4
 have j2 : (b3 : Int) < (s.size : Int) := by omega
 have hlt2 : b2 < s.size := by omega
 have j3 : (b2 : Int) < (s.size : Int) := by omega
 obtain ⟨e, he⟩ : ∃ e, s[b2]'hlt2 = e := ⟨_, rfl⟩
 obtain ⟨f, hf⟩ : ∃ f, s[b3]'hlt3 = f := ⟨_, rfl⟩
 have hd2 := drop_at s b2 hlt2
 have hd3 := drop_at s b3 hlt3
 rw [he] at hd2
 rw [hf] at hd3
 rw [hd2, show b2 + 1 = b3 by omega, hd3] at hR2
 obtain ⟨x2, hx2⟩ : ∃ x : Int, (e.toNat : Int) = x := ⟨_, rfl⟩
 obtain ⟨x3, hx3⟩ : ∃ x : Int, (f.toNat : Int) = x := ⟨_, rfl⟩
 have he2 : ((s[b2]'hlt2).toNat : Int) = x2 := by rw [he, hx2]
 have hf2 : ((s[b3]'hlt3).toNat : Int) = x3 := by rw [hf, hx3]
 have C2 := hide (hexD_any e x2 hx2 w)
 have C3 := hide (hexD_any f x3 hx3 w)
 obtain ⟨A, hA⟩ : ∃ A, hexI e = A := ⟨_, rfl⟩
 obtain ⟨B, hB⟩ : ∃ B, hexI f = B := ⟨_, rfl⟩
 rw [hA] at C2
 rw [hB] at C3
 have HZ2 : Hid (hexP (e :: f :: s.data.toList.drop (b3 + 1)) = R) := hide hR2
 have HAB := hide (And.intro hA hB)
 have hAr : -1 ≤ A ∧ A ≤ 15 := by
  rw [← hA]
  unfold hexI
  cases h : hexV e with
  |none => simp
  |some a => have := hexV_lt h; simp; omega
 have hBr : -1 ≤ B ∧ B ≤ 15 := by
  rw [← hB]
  unfold hexI
  cases h : hexV f with
  |none => simp
  |some a => have := hexV_lt h; simp; omega
 clear hR2 hd2 hd3 h92 hx hn4 hn2 hb hA hB hx2 hx3 he hf hy hz hb1 hb2 hb3
 by_cases hA0 : 0 ≤ A
 ·by_cases hB0 : 0 ≤ B
  ·obtain ⟨aa, rfl⟩ : ∃ a : Nat, A = (a : Int) := ⟨A.toNat, by omega⟩
   obtain ⟨bb, rfl⟩ : ∃ b : Nat, B = (b : Int) := ⟨B.toNat, by omega⟩
   have HQ : Hid (R = some (UInt8.ofNat (16 * aa + bb), 4) ∧ aa < 16 ∧ bb < 16) := hide (by
    obtain ⟨h1, h2⟩ := unhide HAB
    have h3 := unhide HZ2
    unfold hexI at h1 h2
    cases he : hexV e with
    |none => rw [he] at h1; simp only at h1; omega
    |some a' =>
     cases hf : hexV f with
     |none => rw [hf] at h2; simp only at h2; omega
     |some b' =>
      rw [he] at h1
      rw [hf] at h2
      simp only at h1 h2
      obtain rfl : a' = aa := by omega
      obtain rfl : b' = bb := by omega
      refine ⟨?_, hexV_lt he, hexV_lt hf⟩
      rw [← h3]
      simp only [hexP, he, hf])
   have hof : Hid (((UInt8.ofNat (16 * aa + bb)).toNat : Int) = 16 * (aa : Int) + (bb : Int)) := hide (by
    have := (unhide HQ).2
    rw [UInt8.toNat_ofNat']
    omega)
   go_enter Tryz.func86, Tryz.ntmps86
   go_wp2_with fail
   refine (unhide C2).mono ?_
   rintro e u ⟨rfl, rfl⟩
   go_wp2_with fail
   refine (unhide C3).mono ?_
   rintro e u ⟨rfl, rfl⟩
   go_wp2_with fail
   go_ret2
   refine ⟨?_, rfl⟩
   rw [(unhide HQ).1, pcV_some, unhide hof]
   rfl
  ·have HQ : Hid (R = none) := hide (by
    obtain ⟨h1, h2⟩ := unhide HAB
    rw [← unhide HZ2]
    unfold hexI at h2
    cases hf : hexV f with
    |none => simp only [hexP, hf]; cases hexV e <;> rfl
    |some b' => rw [hf] at h2; simp at h2; omega)
   go_enter Tryz.func86, Tryz.ntmps86
   go_wp2_with fail
   refine (unhide C2).mono ?_
   rintro e u ⟨rfl, rfl⟩
   go_wp2_with fail
   refine (unhide C3).mono ?_
   rintro e u ⟨rfl, rfl⟩
   go_wp2_with fail
   go_ret2
   exact ⟨by rw [unhide HQ]; rfl, rfl⟩
 ·have HQ : Hid (R = none) := hide (by
   obtain ⟨h1, h2⟩ := unhide HAB
   rw [← unhide HZ2]
   unfold hexI at h1
   cases he : hexV e with
   |none => simp only [hexP, he]
   |some b' => rw [he] at h1; simp at h1; omega)
  go_enter Tryz.func86, Tryz.ntmps86
  go_wp2_with fail
  refine (unhide C2).mono ?_
  rintro e u ⟨rfl, rfl⟩
  go_wp2_with fail
  refine (unhide C3).mono ?_
  rintro e u ⟨rfl, rfl⟩
  go_wp2_with fail
  go_ret2
  exact ⟨by rw [unhide HQ]; rfl, rfl⟩
def NumR (W : List UInt8) (e : Ending) : Prop := ∃ z : Int, e = .returned (.tuple #[.int .i64 z, .bool (intV W).isSome]) ∧ ∀ n, intV W = some n → z = (n : Int)
theorem all_next (s : ByteArray) (i : Nat) (h : i < s.size) : (s.data.toList.take (i + 1)) = s.data.toList.take i ++ [s[i]'h] := by
 rw [List.take_add_one, at_list s i h]
 rfl
theorem pow_19 (i : Nat) (h : i ≤ 18) : 10 ^ i ≤ 1000000000000000000 := Nat.le_trans (Nat.pow_le_pow_right (by decide) h) (by decide)
set_option maxRecDepth 100000 in
set_option maxHeartbeats 1000000 in
theorem numberD_any (s : ByteArray) (h0 : 0 < s.size) (hs : s.size ≤ 8192) (w : World) :
  Calls Tryz.prog 60 #[.string s] w fun e w' => NumR s.data.toList e ∧ w' = w := by
 have hs2 : (s.size : Int) ≤ 8192 := by omega
 obtain ⟨r, hr⟩ := head_list s h0
 obtain ⟨c, hc⟩ : ∃ c, s[0]'h0 = c := ⟨_, rfl⟩
 obtain ⟨z, hz⟩ : ∃ z : Nat, c.toNat = z := ⟨_, rfl⟩
 have hzi : ((s[0]'h0).toNat : Int) = (z : Int) := by rw [hc, hz]
 rw [hc] at hr
 by_cases h19 : 19 < s.size
 ·have hN : intV s.data.toList = none := by rw [hr]; exact int_long (by rw [← hr, len_list]; exact h19)
  have HP : Hid (NumR s.data.toList (.returned (.tuple #[.int .i64 0, .bool false]))) := hide ⟨0, by rw [hN]; rfl, fun n h => by rw [hN] at h; cases h⟩
  have i1 : (19 : Int) < (s.size : Int) := by omega
  clear hN hr hc hz
  go_enter Tryz.func60, Tryz.ntmps60
  go_wp2_with fail
  go_ret2
  exact ⟨unhide HP, rfl⟩
 have i1 : ¬ (19 : Int) < (s.size : Int) := by omega
 by_cases hzero : 1 < s.size ∧ z = 48
 ·have hN : intV s.data.toList = none := by
   unfold intV
   rw [if_neg]
   rintro ⟨_, h2, _⟩
   rcases h2 with h2 | h2
   ·rw [len_list] at h2; omega
   ·exact h2 (by rw [hr, List.head?_cons, UInt8.toNat_inj.1 (show c.toNat = (48 : UInt8).toNat by show c.toNat = 48; omega)])
  have HP : Hid (NumR s.data.toList (.returned (.tuple #[.int .i64 0, .bool false]))) := hide ⟨0, by rw [hN]; rfl, fun n h => by rw [hN] at h; cases h⟩
  have i2 : (1 : Int) < (s.size : Int) := by omega
  have i3 : ((z : Int) == 48) = true := beq_iff_eq.2 (by omega)
  clear hN hr hc hz hzero
  go_enter Tryz.func60, Tryz.ntmps60
  go_wp2_with fail
  go_ret2
  exact ⟨unhide HP, rfl⟩
 have HCAN : Hid (s.data.toList.length ≤ 1 ∨ s.data.toList.head? ≠ some 48) := hide (by
  rw [len_list]
  rcases Nat.lt_or_ge 1 s.size with h | h
  ·right
   rw [hr, List.head?_cons]
   intro e
   exact hzero ⟨h, by rw [← hz, Option.some.inj e]; rfl⟩
  ·exact Or.inl h)
 have H19 := hide h19
 have walkIt : ∀ (hcond : (1 : Int) < (s.size : Int) ∧ ((z : Int) == 48) = false ∧ ¬ (z : Int) = 48 ∨ ¬ (1 : Int) < (s.size : Int)), Calls Tryz.prog 60 #[.string s] w fun e w' => NumR s.data.toList e ∧ w' = w := by
  intro hcond
  clear hr hc hz hzero
  rcases hcond with ⟨i2, i3, i4⟩ | i2
  all_goals
   go_enter Tryz.func60, Tryz.ntmps60
   go_wp2_with fail
   go_loop [4, 5] (fun y x => ∃ i : Nat, x = .int .i64 (i : Int) ∧ i ≤ s.size ∧ y = .int .u64 (valF 0 (s.data.toList.take i) : Nat) ∧ Hid ((s.data.toList.take i).all lxDig = true)) (fun _ x => s.size - (intOf x).toNat)
   case atStart => exact ⟨0, rfl, by omega, rfl, hide rfl⟩
   case round =>
    obtain ⟨i, rfl, hi, rfl, HA⟩ := hrel
    obtain ⟨v, hv⟩ : ∃ v, valF 0 (s.data.toList.take i) = v := ⟨_, rfl⟩
    rw [hv]
    by_cases hlt : i < s.size
    ·have j1 : (i : Int) < (s.size : Int) := by omega
     have hvl : v < 1000000000000000000 := by
      have h1 := valF_small (s.data.toList.take i) 0 (unhide HA)
      have h2 : (s.data.toList.take i).length ≤ i := List.length_take_le _ _
      have h3 := pow_19 (s.data.toList.take i).length (by have := unhide H19; omega)
      rw [hv] at h1
      omega
     have CD := hide (digitD_at s i hlt w)
     obtain ⟨d, hd⟩ : ∃ d, s[i]'hlt = d := ⟨_, rfl⟩
     obtain ⟨y, hy⟩ : ∃ y : Nat, d.toNat = y := ⟨_, rfl⟩
     have hyi : ((s[i]'hlt).toNat : Int) = (y : Int) := by rw [hd, hy]
     have hdy : (d.toNat : Int) = (y : Int) := by rw [hy]
     rw [hd, hdy] at CD
     have HNX := hide (all_next s i hlt)
     have HD := hide (And.intro hd hy)
     have HLT := hide hlt
     cases hD : lxDig d with
     |false =>
      have HP : Hid (NumR s.data.toList (.returned (.tuple #[.int .i64 0, .bool false]))) := hide (by
       have hN : intV s.data.toList = none := by
        unfold intV
        rw [if_neg]
        rintro ⟨h1, _, _⟩
        rw [List.all_eq_true] at h1
        have := h1 d (List.mem_of_getElem? (by rw [at_list s i hlt, hd]))
        rw [hD] at this
        cases this
       exact ⟨0, by rw [hN]; rfl, fun n h => by rw [hN] at h; cases h⟩)
      rw [hD] at CD
      clear hd hy hD hdy hv
      go_wp2_with fail
      refine (unhide CD).mono ?_
      rintro e u ⟨rfl, rfl⟩
      go_wp2_with fail
      go_ret2
      exact ⟨unhide HP, rfl⟩
     |true =>
      have hrg := dig_range hD
      rw [hy] at hrg
      have HN2 : Hid (valF 0 (s.data.toList.take (i + 1)) = 10 * v + (y - 48) ∧ (s.data.toList.take (i + 1)).all lxDig = true) := hide (by
       rw [unhide HNX, valF_one, hv, hd, hy, List.all_append, unhide HA]
       refine ⟨rfl, ?_⟩
       simp [hD])
      have w1 : IntKind.u64.wrap (10 * (v : Int)) = 10 * (v : Int) := by rw [IntKind.wrap_u64]; omega
      have w2 : IntKind.u8.wrap ((y : Int) - 48) = (y : Int) - 48 := by rw [IntKind.wrap_u8]; omega
      have w4 : IntKind.u64.wrap ((y : Int) - 48) = (y : Int) - 48 := by rw [IntKind.wrap_u64]; omega
      have w3 : IntKind.u64.wrap (10 * (v : Int) + ((y : Int) - 48)) = 10 * (v : Int) + ((y : Int) - 48) := by rw [IntKind.wrap_u64]; omega
      have HEQ : Hid (10 * (v : Int) + ((y : Int) - 48) = ((10 * v + (y - 48) : Nat) : Int)) := hide (by omega)
      rw [hD] at CD
      clear hd hy hD hdy hv
      go_wp2_with fail
      refine (unhide CD).mono ?_
      rintro e u ⟨rfl, rfl⟩
      go_wp2_with fail
      go_round
      case rel => exact ⟨i + 1, by go_num, unhide HLT, by rw [(unhide HN2).1, ← unhide HEQ], hide (unhide HN2).2⟩
      case measure => have := unhide HLT; simp [intOf]; omega
    ·have j1 : ¬ (i : Int) < (s.size : Int) := by omega
     have ei : i = s.size := by omega
     have hfull : s.data.toList.take i = s.data.toList := List.take_of_length_le (by rw [len_list]; omega)
     have HAA := HA
     rw [hfull] at hv HAA
     by_cases hmax : v ≤ 9223372036854775807
     ·have HP : Hid (NumR s.data.toList (.returned (.tuple #[.int .i64 (v : Int), .bool true]))) := hide (by
       have hN : intV s.data.toList = some v := by
        unfold intV
        rw [if_pos ⟨unhide HAA, unhide HCAN, by rw [valD_F, hv]; exact hmax⟩, valD_F, hv]
       exact ⟨(v : Int), by rw [hN]; rfl, fun n h => by rw [hN] at h; cases h; rfl⟩)
      have k1 : (v : Int) ≤ 9223372036854775807 := by omega
      have k2 : IntKind.i64.wrap (v : Int) = (v : Int) := by rw [IntKind.wrap_i64]; omega
      clear hfull hv ei hmax HAA HA
      go_wp2_with fail
      go_ret2
      exact ⟨unhide HP, rfl⟩
     ·have k1 : ¬ (v : Int) ≤ 9223372036854775807 := by omega
      have HP : Hid (∀ z : Int, NumR s.data.toList (.returned (.tuple #[.int .i64 z, .bool false]))) := hide (fun z => by
       have hN : intV s.data.toList = none := by
        unfold intV
        rw [if_neg]
        rintro ⟨_, _, h3⟩
        rw [valD_F, hv] at h3
        exact hmax h3
       exact ⟨z, by rw [hN]; rfl, fun n h => by rw [hN] at h; cases h⟩)
      clear hfull hv ei hmax HAA HA
      go_wp2_with fail
      go_ret2
      exact ⟨unhide HP _, rfl⟩
 by_cases h1 : 1 < s.size
 ·exact walkIt (Or.inl ⟨by omega, beq_eq_false_iff_ne.2 (by intro e; exact hzero ⟨h1, by omega⟩), by intro e; exact hzero ⟨h1, by omega⟩⟩)
 ·exact walkIt (Or.inr (by omega))
end Go.Proofs.YtgalfhlclmkbfaaGreatDoor
