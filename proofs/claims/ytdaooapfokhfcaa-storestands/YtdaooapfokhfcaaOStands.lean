/-
  StoreStands is true of any Ops; conditions: the form's own reach.
-/
import Derived.Test.YtdaooapfokhfcaaOAll
namespace Go.Proofs.Ytdaooapfokhfcaa
open Go.RowKit
set_option linter.unusedVariables false
set_option linter.unusedSimpArgs false

set_option maxRecDepth 100000 in
set_option maxHeartbeats 2000000 in
theorem stands_any (os : List Opx) (ao : Option Addr) (n cap : Nat) (w : World) (ho : OpsF w w.heap.size ao n os) :
    Calls Try.prog 4 #[.slice ao n cap] w fun e w' => e = .returned (.bool true) ∧ Below w.heap.size w w' := by
  have CN := hide (live_new (w0 := w) (Below.refl _ w))
  have HO : Hid (∀ u, Below w.heap.size w u → OpsF u w.heap.size ao n os) := hide (fun u hu => ho.later hu)
  have hn := ho.length
  have hnb := ho.bl
  have HN := hide hn
  clear ho hn
  go_enter Try.func4, Try.ntmps4
  go_wp2_with fail
  refine (unhide CN).mono ?_
  rintro e w1 ⟨s, rfl, L1, b1⟩
  have H1 := hide L1
  have CN2 := hide (live_new (w0 := w1) (Below.refl _ w1))
  clear L1 b1 CN
  go_wp2_with fail
  refine (unhide CN2).mono ?_
  rintro e w2 ⟨s', rfl, L2, b2⟩
  have T2 := two_of (unhide H1) L2
  have HB2 : Hid (Below w.heap.size w w2) := hide ((unhide H1).below.trans (b2.mono (unhide H1).below.size))
  have CC := hide (two_checkpoint T2 (by simp))
  clear L2 b2 CN2 T2 H1
  go_wp2_with fail
  refine (unhide CC).mono ?_
  rintro e w3 ⟨rfl, T3⟩
  have H3 := hide T3
  clear T3 CC
  go_wp2_with fail
  go_loopw [5] (fun x wr => ∃ (i : Nat) (X : Xs), x = .int .i64 (i : Int) ∧ i ≤ n ∧ Hid (Pai w2 (fun j => j < w.heap.size) wr s X [[]] s' X [])) (fun x _ => n - (intOf x).toNat)
  case atStart => exact ⟨0, _, rfl, Nat.zero_le _, H3⟩
  case round =>
    obtain ⟨i, X, rfl, hi, HT⟩ := hrel
    clear H3
    have HW : Hid (Below w.heap.size w wr) := hide ((unhide HB2).trans ((unhide HT).left.below (fun j h => h) (unhide HB2).size))
    by_cases hlt : i < n
    · have i1 : (i : Int) < (n : Int) := by omega
      obtain ⟨q, hq⟩ : ∃ q, os[i]? = some q := ⟨_, List.getElem?_eq_getElem (by have := unhide HN; omega)⟩
      obtain ⟨a, b, off, x0, x1, x2, x3, x4, x5, x6, x7, x8, rfl, p⟩ := (unhide HO w (Below.refl _ _)).cell i q hq
      have CD := hide (two_done (unhide HT) q x0 x1 x2 x3 x4 x5 x6 x7 x8 p.bk (p.is.mono (unhide HW)) (fun j h => h))
      have CD2 : Hid (∀ u, Below w.heap.size w u → Pai w2 (fun j => j < w.heap.size) u s (doX X q) [[]] s' X [] → Calls Try.prog 9 #[.pointer (some ⟨s', 0, none⟩), .agg #[.int .i64 q.kd, .string q.key, .int .i64 x0, .int .i64 x1, .string x2, .slice x3 x4 x5, .slice x6 x7 x8]] u fun e w' => (∃ r, e = .returned r) ∧ Pai w2 (fun j => j < w.heap.size) w' s (doX X q) [[]] s' (doX X q) []) := hide (fun u hb hT => two_done' hT q x0 x1 x2 x3 x4 x5 x6 x7 x8 p.bk (p.is.mono hb) (fun j h => h))
      obtain ⟨X', hX'⟩ : ∃ X', doX X q = X' := ⟨_, rfl⟩
      rw [hX'] at CD CD2
      clear hX'
      have HC : Hid (∀ u, Below w.heap.size w u → u.cell? ⟨b, off, none⟩ = some (.int .i64 q.kd) ∧ u.cell? ⟨b, off + 1, none⟩ = some (.string q.key) ∧ u.cell? ⟨b, off + 2, none⟩ = some (.int .i64 x0) ∧ u.cell? ⟨b, off + 3, none⟩ = some (.int .i64 x1) ∧ u.cell? ⟨b, off + 4, none⟩ = some (.string x2) ∧ u.cell? ⟨b, off + 5, none⟩ = some (.slice x3 x4 x5) ∧ u.cell? ⟨b, off + 6, none⟩ = some (.slice x6 x7 x8)) := hide (fun u hb => ⟨(hb.cell p.lt).trans p.k, (hb.cell p.lt).trans p.s, (hb.cell p.lt).trans p.c0, (hb.cell p.lt).trans p.c1, (hb.cell p.lt).trans p.c2, (hb.cell p.lt).trans p.c3, (hb.cell p.lt).trans p.c4⟩)
      have e0 := p.at'
      obtain ⟨kd, key, qv⟩ := q
      dsimp only at CD CD2 HC
      obtain ⟨e1, e2, e3, e4, e5, e6, e7⟩ := unhide HC wr (unhide HW)
      clear p hq
      go_wp2_with fail
      refine (unhide CD).mono ?_
      rintro e w4 ⟨⟨r, rfl⟩, T4⟩
      have b4 : Below w.heap.size w w4 := (unhide HB2).trans (T4.left.below (fun j h => h) (unhide HB2).size)
      have CD3 := hide (unhide CD2 w4 b4 T4)
      clear e1 e2 e3 e4 e5 e6 e7
      obtain ⟨e1, e2, e3, e4, e5, e6, e7⟩ := unhide HC w4 b4
      clear T4 b4 CD CD2 HC
      go_wp2_with fail
      refine (unhide CD3).mono ?_
      rintro e w5 ⟨⟨r5, rfl⟩, T5⟩
      have H5 := hide T5
      clear T5 CD3 e0 e1 e2 e3 e4 e5 e6 e7
      have HI1 : Hid (i + 1 ≤ n) := hide (by omega)
      go_wp2_with fail
      go_roundw
      case rel => exact ⟨i + 1, _, by go_num, unhide HI1, H5⟩
      case measure => have := unhide HI1; simp [intOf]; omega
    · have i1 : ¬ (i : Int) < (n : Int) := by omega
      have CE := hide (liv_entries (unhide HT).left)
      have hf := (unhide HT).left.facts
      obtain ⟨m, hm⟩ : ∃ m, X.length = m := ⟨_, rfl⟩
      rw [hm] at CE hf
      have hmb := hf.2.2.1
      have HM := hide hm
      clear hm hf
      go_wp2_with fail
      refine (unhide CE).mono ?_
      rintro e w6 ⟨al, cl, rfl, E6, b6⟩
      have T6 := (unhide HT).more b6
      have HB6 : Hid (Below w.heap.size w w6) := hide ((unhide HW).trans (b6.mono (unhide HW).size))
      have CM := hide (two_commit T6)
      have H6 := hide E6
      obtain ⟨K, hK⟩ : ∃ K : Nat → Prop, (fun j => j < w.heap.size ∨ (wr.heap.size ≤ j ∧ j < w6.heap.size)) = K := ⟨_, rfl⟩
      have HK : Hid (∀ j, j < w.heap.size ∨ (wr.heap.size ≤ j ∧ j < w6.heap.size) → K j) := hide (fun j hj => by rw [← hK]; exact hj)
      rw [hK] at CM
      clear hK E6 T6 b6 CE HT
      go_wp2_with fail
      refine (unhide CM).mono ?_
      rintro e w7 ⟨rfl, T7⟩
      have CM2 : Hid (Calls Try.prog 14 #[.pointer (some ⟨s, 0, none⟩)] w7 fun e w' => e = .returned (.int .i64 63) ∧ Pai w6 K w' s X [] s' X []) := hide (by
        obtain ⟨V, t, V', t', g1, g2, g3, g4⟩ := T7
        have hT : Pai w6 K w7 s X [] s' X [] := ⟨V, t, V', t', g1, g2, g3, g4⟩
        have := commit_none g3
        rw [g1] at this
        exact this.mono (fun e w' hh => ⟨hh.1, hT.later hh.2⟩))
      clear T7 CM
      go_wp2_with fail
      refine (unhide CM2).mono ?_
      rintro e w8 ⟨rfl, T8⟩
      have CE8 := liv_entries T8.left
      rw [unhide HM] at CE8
      have CE8 := hide CE8
      have H8 := hide T8
      clear T8 CM2
      go_wp2_with fail
      refine (unhide CE8).mono ?_
      rintro e w9 ⟨al9, cl9, rfl, E9, b9⟩
      have T9 := (unhide H8).later b9
      have CE9 := liv_entries T9.swap.left
      rw [unhide HM] at CE9
      have CE9 := hide CE9
      have H9 := hide (And.intro T9 E9)
      clear T9 E9 b9 CE8 H8
      go_wp2_with fail
      refine (unhide CE9).mono ?_
      rintro e wa ⟨ala, cla, rfl, Ea, ba⟩
      have Ta := (unhide H9).1.later ba
      have A1 : IsE wa (fun b => b < wa.heap.size) X al cl := ((unhide H6).move (fun b hb => Ta.left.kept (unhide HK b (.inr hb)))).weak (fun b hb => Nat.lt_of_lt_of_le hb.2 Ta.left.size)
      have A2 : IsE wa (fun b => b < wa.heap.size) X al9 cl9 := ((unhide H9).2.move (fun b hb => ba.block b hb.2)).weak (fun b hb => Nat.lt_of_lt_of_le hb.2 ba.size)
      have A3 : IsE wa (fun b => b < wa.heap.size) X ala cla := Ea.weak (fun b hb => hb.2)
      have HA := hide (And.intro Ta (And.intro A1 (And.intro A2 A3)))
      have CS := hide (sameEn_any X X al al9 m m cl cl9 wa.heap.size wa (unhide HM) (unhide HM) A1 A2 (Nat.le_refl _))
      clear Ta A1 A2 A3 Ea ba CE9 H9 H6
      go_wp2_with fail
      refine (unhide CS).mono ?_
      rintro e wb ⟨r, rfl, hr, bb⟩
      obtain rfl : r = true := hr.2 (smP_refl _)
      have CS2 := hide (sameEn_any X X al9 ala m m cl9 cla wa.heap.size wb (unhide HM) (unhide HM) ((unhide HA).2.2.1.later bb) ((unhide HA).2.2.2.later bb) bb.size)
      have Hb := hide ((unhide HA).1.later bb)
      clear hr bb CS
      go_wp2_with fail
      refine (unhide CS2).mono ?_
      rintro e wc ⟨r, rfl, hr, bc⟩
      obtain rfl : r = true := hr.2 (smP_refl _)
      have Tc := (unhide Hb).later bc
      have CW1 := hide (liv_weight Tc.left)
      have CW2 := hide (liv_weight Tc.swap.left)
      have HF : Hid (Below w.heap.size w wc) := hide ((unhide HB6).trans (Tc.left.below (fun j h => unhide HK j (.inl h)) (unhide HB6).size))
      clear hr bc Tc CS2 Hb HA
      go_wp2_with fail
      refine (unhide CW1).mono ?_
      rintro e u1 ⟨rfl, hu1⟩
      obtain rfl := hu1.symm
      clear hu1
      go_wp2_with fail
      refine (unhide CW2).mono ?_
      rintro e u1 ⟨rfl, hu1⟩
      obtain rfl := hu1.symm
      clear hu1
      go_wp2_with fail
      go_ret
      exact ⟨by simp, unhide HF⟩
end Go.Proofs.Ytdaooapfokhfcaa
