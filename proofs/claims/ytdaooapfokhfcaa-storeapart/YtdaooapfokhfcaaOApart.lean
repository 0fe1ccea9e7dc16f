/-
  StoreApart is true of any entries and any Ops; conditions: the form's own reach.
-/
import Derived.Test.YtdaooapfokhfcaaOAll
namespace Go.Proofs.Ytdaooapfokhfcaa
open Go.RowKit
set_option linter.unusedVariables false
set_option linter.unusedSimpArgs false

theorem copies_is (es : List En) (al : Option Addr) (n cl : Nat) (w : World) (hn : es.length = n) (hE : IsE w (fun b => b < w.heap.size) es al cl) :
    Calls Try.prog 23 #[.slice al n cl] w fun e w' => ∃ al' cl', e = .returned (.slice al' n cl') ∧ IsE w' (fun b => b < w'.heap.size) es al' cl' ∧ Below w.heap.size w w' := by
  refine (copies_any es al n cl w hn hE).mono ?_
  rintro e w' ⟨sv, xs, rfl, e1, e2, b⟩
  obtain ⟨V, hV⟩ := hE
  have hl : xs.length = es.length := by rw [← e1]; exact (mapK_len _ _).symm
  obtain ⟨al', cl', rfl, hE'⟩ := e2.isE (by have := hV.bl; omega) (fun p hp => hV.bt (p.1, p.2.2) (by rw [← e1]; exact List.mem_map.2 ⟨p, hp, rfl⟩))
  rw [e1] at hE'
  rw [hl, hn]
  refine ⟨al', cl', rfl, hE'.weak (fun j hj => ?_), b⟩
  rcases hj with e | e
  · exact Nat.lt_of_lt_of_le e b.size
  · exact e.2

set_option maxRecDepth 100000 in
set_option maxHeartbeats 4000000 in
theorem apart_any (es : List En) (os : List Opx) (al ao : Option Addr) (n cl m cap : Nat) (w : World) (hE : IsE w (fun b => b < w.heap.size) es al cl) (ho : OpsF w w.heap.size ao m os) (hn : es.length = n) :
    Calls Try.prog 6 #[.slice al n cl, .slice ao m cap] w fun e w' => e = .returned (.bool true) ∧ Below w.heap.size w w' := by
  have HE : Hid (∀ u, Below w.heap.size w u → IsE u (fun b => b < w.heap.size) es al cl) := hide (fun u hu => hE.later hu)
  have HCp : Hid (∀ u, Below w.heap.size w u → Calls Try.prog 23 #[.slice al n cl] u fun e w' => ∃ al' cl', e = .returned (.slice al' n cl') ∧ IsE w' (fun b => b < w'.heap.size) es al' cl' ∧ Below u.heap.size u w') := hide (fun u hu => copies_is es al n cl u hn ((hE.later hu).weak (fun b hb => Nat.lt_of_lt_of_le hb hu.size)))
  have HFr : Hid (∀ (u : World) (al' : Option Addr) (cl' : Nat), IsE u (fun b => b < u.heap.size) es al' cl' → Calls Try.prog 16 #[.slice al' n cl'] u fun e w' => FromPost u es e w') := hide (fun u al' cl' h => from_any es al' n cl' u hn h)
  have HO : Hid (OpsF w w.heap.size ao m os) := hide ho
  have HN := hide hn
  have HOn := hide ho.length
  have hmb := ho.bl
  have CP1 := hide (unhide HCp w (Below.refl _ _))
  clear hE ho hn
  by_cases hf : fromR es = 0
  · -- both are made
    have HF0 := hide hf
    clear hf
    go_enter Try.func6, Try.ntmps6
    go_wp2_with fail
    refine (unhide CP1).mono ?_
    rintro e w1 ⟨al1, cl1, rfl, E1, b1⟩
    have CF1 : Hid (Calls Try.prog 16 #[.slice al1 n cl1] w1 fun e w' => ∃ s, e = .returned (.tuple #[.pointer (some ⟨s, 0, none⟩), .int .i64 0]) ∧ Live w w' s es []) := hide ((unhide HFr w1 al1 cl1 E1).mono (fun e w' hh => by
      rcases hh with ⟨_, s, rfl, L⟩ | ⟨hne, _⟩
      · exact ⟨s, rfl, L.base b1⟩
      · exact absurd (unhide HF0) hne))
    clear E1 b1 CP1
    go_wp2_with fail
    refine (unhide CF1).mono ?_
    rintro e w2 ⟨s, rfl, L2⟩
    have CP2 := hide (unhide HCp w2 L2.below)
    have H2 := hide L2
    clear L2 CF1 HCp
    go_wp2_with fail
    refine (unhide CP2).mono ?_
    rintro e w3 ⟨al3, cl3, rfl, E3, b3⟩
    have L3 := (unhide H2).later b3
    have CF2 : Hid (Calls Try.prog 16 #[.slice al3 n cl3] w3 fun e w' => ∃ s', e = .returned (.tuple #[.pointer (some ⟨s', 0, none⟩), .int .i64 0]) ∧ Pai w' (fun j => j < w.heap.size) w' s es [] s' es [] ∧ Below w.heap.size w w') := hide ((unhide HFr w3 al3 cl3 E3).mono (fun e w' hh => by
      rcases hh with ⟨_, s', rfl, L⟩ | ⟨hne, _⟩
      · exact ⟨s', rfl, two_of L3 L, L3.below.trans (L.below.mono L3.below.size)⟩
      · exact absurd (unhide HF0) hne))
    clear E3 b3 L3 CP2 HFr H2
    go_wp2_with fail
    refine (unhide CF2).mono ?_
    rintro e w4 ⟨s', rfl, T4, B4⟩
    have CC := hide (two_checkpoint T4 (by simp))
    have HB4 := hide B4
    clear T4 B4 CF2
    go_wp2_with fail
    refine (unhide CC).mono ?_
    rintro e w5 ⟨rfl, T5⟩
    have H5 := hide T5
    clear T5 CC
    go_wp2_with fail
    go_loopw [11] (fun x wr => ∃ (i : Nat) (X : Xs), x = .int .i64 (i : Int) ∧ i ≤ m ∧ Hid (Pai w4 (fun j => j < w.heap.size) wr s X [es] s' es [])) (fun x _ => m - (intOf x).toNat)
    case atStart => exact ⟨0, _, rfl, Nat.zero_le _, H5⟩
    case round =>
      obtain ⟨i, X, rfl, hi, HT⟩ := hrel
      clear H5
      have HW : Hid (Below w.heap.size w wr) := hide ((unhide HB4).trans ((unhide HT).left.below (fun j h => h) (unhide HB4).size))
      by_cases hlt : i < m
      · have i1 : (i : Int) < (m : Int) := by omega
        obtain ⟨q, hq⟩ : ∃ q, os[i]? = some q := ⟨_, List.getElem?_eq_getElem (by have := unhide HOn; omega)⟩
        obtain ⟨a, b, off, x0, x1, x2, x3, x4, x5, x6, x7, x8, rfl, p⟩ := (unhide HO).cell i q hq
        have hB := unhide HW
        have CD := hide (two_done (unhide HT) q x0 x1 x2 x3 x4 x5 x6 x7 x8 p.bk (p.is.mono hB) (fun j h => h))
        obtain ⟨kd, key, qv⟩ := q
        have e0 := p.at'
        have e1 := (hB.cell p.lt).trans p.k
        have e2 := (hB.cell p.lt).trans p.s
        have e3 := (hB.cell p.lt).trans p.c0
        have e4 := (hB.cell p.lt).trans p.c1
        have e5 := (hB.cell p.lt).trans p.c2
        have e6 := (hB.cell p.lt).trans p.c3
        have e7 := (hB.cell p.lt).trans p.c4
        dsimp only at CD e1 e2
        clear p hq hB
        go_wp2_with fail
        refine (unhide CD).mono ?_
        rintro e w6 ⟨⟨r, rfl⟩, T6⟩
        have H6 := hide T6
        clear T6 CD e0 e1 e2 e3 e4 e5 e6 e7
        have HI1 : Hid (i + 1 ≤ m) := hide (by omega)
        go_wp2_with fail
        go_roundw
        case rel => exact ⟨i + 1, _, by go_num, unhide HI1, H6⟩
        case measure => have := unhide HI1; simp [intOf]; omega
      · have i1 : ¬ (i : Int) < (m : Int) := by omega
        have CE := liv_entries (unhide HT).swap.left
        rw [unhide HN] at CE
        have CE := hide CE
        go_wp2_with fail
        refine (unhide CE).mono ?_
        rintro e w6 ⟨al6, cl6, rfl, E6, b6⟩
        have T6 := (unhide HT).later b6
        have B6 : Below w.heap.size w w6 := (unhide HW).trans (b6.mono (unhide HW).size)
        have CS := hide (sameEn_any es es al6 al n n cl6 cl w6.heap.size w6 (unhide HN) (unhide HN) (E6.weak (fun b hb => hb.2)) ((unhide HE w6 B6).weak (fun b hb => Nat.lt_of_lt_of_le hb B6.size)) (Nat.le_refl _))
        have H6 := hide (And.intro T6 B6)
        clear E6 b6 T6 B6 CE HT HW
        go_wp2_with fail
        refine (unhide CS).mono ?_
        rintro e w7 ⟨r, rfl, hr, b7⟩
        obtain rfl : r = true := hr.2 (smP_refl _)
        have T7 := (unhide H6).1.later b7
        have B7 : Below w.heap.size w w7 := (unhide H6).2.trans (b7.mono (unhide H6).2.size)
        have CO := hide (liv_open T7.swap.left)
        have CR := hide (liv_rollback0 T7.swap.left)
        have H7 := hide (And.intro T7 B7)
        clear hr b7 T7 B7 CS H6
        go_wp2_with fail
        refine (unhide CO).mono ?_
        rintro e u1 ⟨rfl, hu1⟩
        obtain rfl := hu1.symm
        clear hu1 CO
        go_wp2_with fail
        refine (unhide CR).mono ?_
        rintro e w8 ⟨rfl, b8⟩
        have T8 := (unhide H7).1.later b8
        have CR2 := hide (two_rollback T8)
        clear b8 T8 CR
        go_wp2_with fail
        refine (unhide CR2).mono ?_
        rintro e w9 ⟨rfl, T9⟩
        have B9 : Below w.heap.size w w9 := (unhide HB4).trans (T9.left.below (fun j h => h) (unhide HB4).size)
        have CE := liv_entries T9.left
        rw [unhide HN] at CE
        have CE := hide CE
        have HB9 := hide B9
        clear T9 B9 CR2 H7
        go_wp2_with fail
        refine (unhide CE).mono ?_
        rintro e wa ⟨ala, cla, rfl, Ea, ba⟩
        have Ba : Below w.heap.size w wa := (unhide HB9).trans (ba.mono (unhide HB9).size)
        have CS := hide (sameEn_any es es ala al n n cla cl wa.heap.size wa (unhide HN) (unhide HN) (Ea.weak (fun b hb => hb.2)) ((unhide HE wa Ba).weak (fun b hb => Nat.lt_of_lt_of_le hb Ba.size)) (Nat.le_refl _))
        have HBa := hide Ba
        clear Ea ba Ba CE HB9
        go_wp2_with fail
        refine (unhide CS).mono ?_
        rintro e wb ⟨r, rfl, hr, bb⟩
        obtain rfl : r = true := hr.2 (smP_refl _)
        have HBb := hide ((unhide HBa).trans (bb.mono (unhide HBa).size))
        clear hr bb CS
        go_wp2_with fail
        go_ret
        exact ⟨rfl, unhide HBb⟩
  · -- none is made
    have HF0 := hide hf
    obtain ⟨R, hR⟩ : ∃ R, fromR es = R := ⟨_, rfl⟩
    have r0 : ¬ R = 0 := by rw [← hR]; exact hf
    have r1 : (R == 0) = false := by rw [← hR]; simp [hf]
    have r2 : (R != 0) = true := by rw [bne, r1]; rfl
    have HR := hide hR
    clear hf hR
    have CN : Hid (∀ u, Calls Try.prog 16 #[.slice none 0 0] u fun e w' => ∃ s, e = .returned (.tuple #[.pointer (some ⟨s, 0, none⟩), .int .i64 0]) ∧ Live u w' s [] []) := hide (fun u => (from_any [] none 0 0 u rfl ⟨fun _ => [], (fun _ => ⟨rfl, rfl⟩), Nat.le_refl _, by simp, (fun a h => by cases h), (fun t h => by cases h), (fun i e h => by simp at h)⟩).mono (fun e w' hh => by
      rcases hh with ⟨_, s, rfl, L⟩ | ⟨hne, _⟩
      · exact ⟨s, rfl, L⟩
      · exact absurd rfl hne))
    go_enter Try.func6, Try.ntmps6
    go_wp2_with fail
    refine (unhide CP1).mono ?_
    rintro e w1 ⟨al1, cl1, rfl, E1, b1⟩
    have CF1 : Hid (Calls Try.prog 16 #[.slice al1 n cl1] w1 fun e w' => e = .returned (.tuple #[.pointer none, .int .i64 R]) ∧ Below w.heap.size w w') := hide ((unhide HFr w1 al1 cl1 E1).mono (fun e w' hh => by
      rcases hh with ⟨he, _⟩ | ⟨_, rfl, b⟩
      · exact absurd he (unhide HF0)
      · exact ⟨by rw [unhide HR], b1.trans (b.mono b1.size)⟩))
    clear E1 b1 CP1
    go_wp2_with fail
    refine (unhide CF1).mono ?_
    rintro e w2 ⟨rfl, b2⟩
    have CP2 := hide (unhide HCp w2 b2)
    have H2 := hide b2
    clear b2 CF1 HCp
    go_wp2_with fail
    refine (unhide CP2).mono ?_
    rintro e w3 ⟨al3, cl3, rfl, E3, b3⟩
    have CF2 : Hid (Calls Try.prog 16 #[.slice al3 n cl3] w3 fun e w' => e = .returned (.tuple #[.pointer none, .int .i64 R]) ∧ Below w.heap.size w w') := hide ((unhide HFr w3 al3 cl3 E3).mono (fun e w' hh => by
      rcases hh with ⟨he, _⟩ | ⟨_, rfl, b⟩
      · exact absurd he (unhide HF0)
      · exact ⟨by rw [unhide HR], (unhide H2).trans ((b3.trans (b.mono b3.size)).mono (unhide H2).size)⟩))
    clear E3 b3 CP2 HFr
    go_wp2_with fail
    refine (unhide CF2).mono ?_
    rintro e w4 ⟨rfl, b4⟩
    have CN4 := hide (unhide CN w4)
    have H4 := hide b4
    clear b4 CF2 CN
    go_wp2_with fail
    refine (unhide CN4).mono ?_
    rintro e w5 ⟨s, rfl, L5⟩
    have CC := hide (live_checkpoint (L5.base (unhide H4)) (by simp))
    clear L5 CN4
    go_wp2_with fail
    refine (unhide CC).mono ?_
    rintro e w6 ⟨rfl, L6⟩
    have H6 := hide L6.below
    clear L6 CC
    go_wp2_with fail
    go_ret
    exact ⟨rfl, unhide H6⟩
end Go.Proofs.Ytdaooapfokhfcaa
