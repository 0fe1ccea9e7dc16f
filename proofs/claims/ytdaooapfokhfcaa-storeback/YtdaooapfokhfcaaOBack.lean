/-
  StoreBack is true of any two rows of Ops; conditions: the form's own reach.
-/
import Derived.Test.YtdaooapfokhfcaaOAll
namespace Go.Proofs.Ytdaooapfokhfcaa
open Go.RowKit
set_option linter.unusedVariables false
set_option linter.unusedSimpArgs false

set_option maxRecDepth 100000 in
set_option maxHeartbeats 4000000 in
theorem back_all (os os2 : List Opx) (ao ao2 : Option Addr) (n cap n2 cap2 : Nat) (w : World) (ho : OpsF w w.heap.size ao n os) (ho2 : OpsF w w.heap.size ao2 n2 os2) :
    Calls Try.prog 3 #[.slice ao n cap, .slice ao2 n2 cap2] w fun e w' => e = .returned (.bool true) ∧ Below w.heap.size w w' := by
  have CN := hide (live_new (w0 := w) (Below.refl _ w))
  have CP : Hid (∀ (u : World) (s : Nat), Live w u s [] [] → Calls Try.prog 8 #[.pointer (some ⟨s, 0, none⟩), .string ⟨#[102, 105, 114, 115, 116]⟩, .agg #[.int .i64 2, .int .i64 1, .string ⟨#[]⟩, .slice none 0 0, .slice none 0 0]] u fun e w' => e = .returned (.int .i64 0) ∧ Live w w' s [(⟨#[102, 105, 114, 115, 116]⟩, .mk 2 1 ⟨#[]⟩ [] [])] []) := hide (fun u s h => by
    have e0 : (⟨#[]⟩ : ByteArray).size = 0 := rfl
    have hr : rightB (.mk 2 1 ⟨#[]⟩ [] []) = true := by simp [rightB, okB, formB, formM, okL_nil, wt, keysW, wtL_nil, e0]
    have hp := put_first (k := ⟨#[102, 105, 114, 115, 116]⟩) (v := .mk 2 1 ⟨#[]⟩ [] []) (by decide) hr
    have := live_put h ⟨#[102, 105, 114, 115, 116]⟩ (.mk 2 1 ⟨#[]⟩ [] []) _ (isP_flat u (fun _ => False) 2 1 ⟨#[]⟩ (by omega) (by omega) (by decide)) (fun j hj => hj.elim)
    rw [hp.1, hp.2] at this
    exact this)
  have HO : Hid (∀ u, Below w.heap.size w u → OpsF u w.heap.size ao n os) := hide (fun u hu => ho.later hu)
  have HO2 : Hid (OpsF w w.heap.size ao2 n2 os2) := hide ho2
  have hn := ho.length
  have hnb := ho.bl
  have HN := hide hn
  have hn2 := ho2.length
  have hnb2 := ho2.bl
  have HN2 := hide hn2
  clear ho hn ho2 hn2
  go_enter Try.func3, Try.ntmps3
  go_wp2_with fail
  refine (unhide CN).mono ?_
  rintro e w1 ⟨s, rfl, L1, b1⟩
  have CP1 := hide (unhide CP w1 s L1)
  clear L1 b1 CN CP
  go_wp2_with fail
  refine (unhide CP1).mono ?_
  rintro e w2 ⟨rfl, L2⟩
  have H2 := hide L2
  clear L2 CP1
  go_wp2_with fail
  go_loopw [6] (fun x wr => ∃ (i : Nat) (X : Xs), x = .int .i64 (i : Int) ∧ i ≤ n ∧ Hid (Live w wr s X [])) (fun x _ => n - (intOf x).toNat)
  case atStart => exact ⟨0, _, rfl, Nat.zero_le _, H2⟩
  case round =>
    obtain ⟨i, X, rfl, hi, HL⟩ := hrel
    clear H2
    by_cases hlt : i < n
    · have i1 : (i : Int) < (n : Int) := by omega
      obtain ⟨q, hq⟩ : ∃ q, os[i]? = some q := ⟨_, List.getElem?_eq_getElem (by have := unhide HN; omega)⟩
      obtain ⟨a, b, off, x0, x1, x2, x3, x4, x5, x6, x7, x8, rfl, p⟩ := (unhide HO wr (unhide HL).below).cell i q hq
      have CD := hide (live_done (unhide HL) q x0 x1 x2 x3 x4 x5 x6 x7 x8 p.bk p.is)
      obtain ⟨kd, key, qv⟩ := q
      have e0 := p.at'
      have e1 := p.k
      have e2 := p.s
      have e3 := p.c0
      have e4 := p.c1
      have e5 := p.c2
      have e6 := p.c3
      have e7 := p.c4
      dsimp only at CD e1 e2
      clear p hq
      go_wp2_with fail
      refine (unhide CD).mono ?_
      rintro e w3 ⟨⟨r, rfl⟩, L3⟩
      have H3 := hide L3
      clear L3 CD e0 e1 e2 e3 e4 e5 e6 e7
      have HI1 : Hid (i + 1 ≤ n) := hide (by omega)
      go_wp2_with fail
      go_roundw
      case rel => exact ⟨i + 1, _, by go_num, unhide HI1, H3⟩
      case measure => have := unhide HI1; simp [intOf]; omega
    · have i1 : ¬ (i : Int) < (n : Int) := by omega
      obtain ⟨m, hm⟩ : ∃ m, X.length = m := ⟨_, rfl⟩
      have hf := (unhide HL).facts
      rw [hm] at hf
      have hmb := hf.2.2
      have CE := live_split (unhide HL)
      rw [hm] at CE
      have CE := hide CE
      have HM := hide hm
      clear hf hm hlt hi HO HN
      go_wp2_with fail
      refine (unhide CE).mono ?_
      rintro e w4 ⟨al, cl, rfl, E4, L4, B4⟩
      obtain ⟨K, hK⟩ : ∃ K : Nat → Prop, (fun j => j < w.heap.size ∨ (wr.heap.size ≤ j ∧ j < w4.heap.size)) = K := ⟨_, rfl⟩
      have HK : Hid (∀ j, j < w.heap.size ∨ (wr.heap.size ≤ j ∧ j < w4.heap.size) → K j) := hide (fun j hj => by rw [← hK]; exact hj)
      rw [hK] at L4
      have CC := hide (liv_checkpoint L4 (by simp))
      have H4 := hide (And.intro E4 B4)
      clear hK E4 L4 B4 CE HL
      go_wp2_with fail
      refine (unhide CC).mono ?_
      rintro e w5 ⟨rfl, L5⟩
      have H5 : Hid (Liv w4 K w5 s X ([] ++ [X])) := hide L5
      clear L5 CC
      have HBW : Hid (∀ (u : World) (Y : Xs) (Ds : List Xs), Liv w4 K u s Y Ds → Below w.heap.size w u) := hide (fun u Y Ds h => (unhide H4).2.trans (h.below (fun j hj => unhide HK j (.inl hj)) (unhide H4).2.size))
      go_wp2_with fail
      go_loopw [9, 10] (fun y x wr => ∃ (i d : Nat) (Y : Xs) (Ds : List Xs), y = .int .i64 (d : Int) ∧ x = .int .i64 (i : Int) ∧ i ≤ n2 ∧ d ≤ i ∧ Hid (Ds.length = d ∧ Liv w4 K wr s Y (Ds ++ [X]))) (fun _ x _ => n2 - (intOf x).toNat)
      case atStart => exact ⟨0, 0, X, [], rfl, rfl, Nat.zero_le _, Nat.le_refl _, hide ⟨rfl, unhide H5⟩⟩
      case round =>
        obtain ⟨i, d, Y, Ds, rfl, rfl, hi, hd, HD⟩ := hrel
        clear H5
        by_cases hlt : i < n2
        · have i2 : (i : Int) < (n2 : Int) := by omega
          obtain ⟨q, hq⟩ : ∃ q, os2[i]? = some q := ⟨_, List.getElem?_eq_getElem (by have := unhide HN2; omega)⟩
          obtain ⟨a, b, off, x0, x1, x2, x3, x4, x5, x6, x7, x8, rfl, p⟩ := (unhide HO2).cell i q hq
          have hB := unhide HBW wr Y _ (unhide HD).2
          have CD := hide (liv_done (unhide HD).2 q x0 x1 x2 x3 x4 x5 x6 x7 x8 p.bk (p.is.mono hB) (fun j hj => unhide HK j (.inl hj)))
          have CPk := pick_any q.kd 9 wr p.bk.1 p.bk.2 (by omega) (by omega)
          have hk9 := kOf_rng q
          have hkk : pickI q.kd 9 = kOf q := rfl
          rw [hkk] at CPk
          obtain ⟨k9, hk9e⟩ : ∃ k9, kOf q = k9 := ⟨_, rfl⟩
          rw [hk9e] at CPk hk9
          obtain ⟨kd, key, qv⟩ := q
          have e0 := p.at'
          have e1 := (hB.cell p.lt).trans p.k
          have e2 := (hB.cell p.lt).trans p.s
          have e3 := (hB.cell p.lt).trans p.c0
          have e4 := (hB.cell p.lt).trans p.c1
          have e5 := (hB.cell p.lt).trans p.c2
          have e6 := (hB.cell p.lt).trans p.c3
          have e7 := (hB.cell p.lt).trans p.c4
          dsimp only at CD CPk e1 e2
          have HI1 : Hid (i + 1 ≤ n2) := hide (by omega)
          clear p hq hB hkk hk9e
          rcases (show k9 = 4 ∨ k9 = 5 ∨ k9 = 6 ∨ (k9 ≠ 4 ∧ k9 ≠ 5 ∧ k9 ≠ 6) by omega) with rfl | rfl | rfl | hk
          · -- a checkpoint within
            have CPk := hide CPk
            have CC := liv_checkpoint (unhide HD).2 (by rw [List.length_append, (unhide HD).1]; simp; omega)
            have hl : (Ds ++ [X]).length + 1 = d + 2 := by rw [List.length_append, (unhide HD).1]; simp
            rw [hl] at CC
            have CC := hide CC
            have w1 : IntKind.i64.wrap ((d : Int) + 1) = ((d + 1 : Nat) : Int) := by rw [IntKind.wrap_i64]; omega
            have w2' : (1 : Int) + ((d + 1 : Nat) : Int) = ((d + 2 : Nat) : Int) := by omega
            have w3' : IntKind.i64.wrap ((d + 2 : Nat) : Int) = ((d + 2 : Nat) : Int) := by rw [IntKind.wrap_i64]; omega
            have HD1 : Hid (d + 1 ≤ i + 1 ∧ Ds.length = d) := hide ⟨by omega, (unhide HD).1⟩
            clear CD hl
            go_wp2_with fail
            refine (unhide CPk).mono ?_
            rintro e u1 ⟨rfl, hu1⟩
            obtain rfl := hu1.symm
            clear hu1
            go_wp2_with fail
            refine (unhide CC).mono ?_
            rintro e u2 ⟨rfl, L⟩
            have HL2 : Hid (Liv w4 K u2 s Y ((Y :: Ds) ++ [X])) := hide L
            clear L CC CPk e0 e1 e2 e3 e4 e5 e6 e7
            go_wp2_with fail
            go_roundw
            case rel => exact ⟨i + 1, d + 1, Y, Y :: Ds, by go_num, by go_num, unhide HI1, (unhide HD1).1, hide ⟨by rw [List.length_cons, (unhide HD1).2], unhide HL2⟩⟩
            case measure => have := unhide HI1; simp [intOf]; omega
          · -- one is rolled back
            have CPk := hide CPk
            clear CD
            cases Ds with
            | nil =>
              have hd0 : d = 0 := (unhide HD).1.symm
              subst hd0
              go_wp2_with fail
              refine (unhide CPk).mono ?_
              rintro e u1 ⟨rfl, hu1⟩
              obtain rfl := hu1.symm
              clear hu1
              go_wp2_with fail
              go_roundw
              case rel => exact ⟨i + 1, 0, Y, [], by go_num, by go_num, unhide HI1, Nat.zero_le _, HD⟩
              case measure => have := unhide HI1; simp [intOf]; omega
            | cons D0 Dr =>
              obtain ⟨d', hd'⟩ : ∃ d', d = d' + 1 := ⟨Dr.length, by rw [← (unhide HD).1]; rfl⟩
              have g1 : (0 : Int) < (d : Int) := by omega
              have w1 : IntKind.i64.wrap ((d : Int) - 1) = (d' : Int) := by rw [IntKind.wrap_i64]; omega
              have CC := hide (liv_rollback (unhide HD).2)
              have HD1 : Hid (d' ≤ i + 1 ∧ Dr.length = d') := hide ⟨by omega, by have h1 := (unhide HD).1; rw [List.length_cons] at h1; omega⟩
              have HDD := hide hd'
              clear hd'
              go_wp2_with fail
              refine (unhide CPk).mono ?_
              rintro e u1 ⟨rfl, hu1⟩
              obtain rfl := hu1.symm
              clear hu1
              go_wp2_with fail
              refine (unhide CC).mono ?_
              rintro e u2 ⟨rfl, L⟩
              have HL2 : Hid (Liv w4 K u2 s D0 (Dr ++ [X])) := hide L
              clear L CC CPk e0 e1 e2 e3 e4 e5 e6 e7
              go_wp2_with fail
              go_roundw
              case rel => exact ⟨i + 1, d', D0, Dr, (by have := unhide HDD; first | rfl | (congr 1; omega)), by go_num, unhide HI1, (unhide HD1).1, hide ⟨(unhide HD1).2, unhide HL2⟩⟩
              case measure => have := unhide HI1; simp [intOf]; omega
          · -- one is committed
            have CPk := hide CPk
            clear CD
            cases Ds with
            | nil =>
              have hd0 : d = 0 := (unhide HD).1.symm
              subst hd0
              go_wp2_with fail
              refine (unhide CPk).mono ?_
              rintro e u1 ⟨rfl, hu1⟩
              obtain rfl := hu1.symm
              clear hu1
              go_wp2_with fail
              go_roundw
              case rel => exact ⟨i + 1, 0, Y, [], by go_num, by go_num, unhide HI1, Nat.zero_le _, HD⟩
              case measure => have := unhide HI1; simp [intOf]; omega
            | cons D0 Dr =>
              obtain ⟨d', hd'⟩ : ∃ d', d = d' + 1 := ⟨Dr.length, by rw [← (unhide HD).1]; rfl⟩
              have g1 : (0 : Int) < (d : Int) := by omega
              have w1 : IntKind.i64.wrap ((d : Int) - 1) = (d' : Int) := by rw [IntKind.wrap_i64]; omega
              have CC := hide (liv_commit (unhide HD).2)
              have HD1 : Hid (d' ≤ i + 1 ∧ Dr.length = d') := hide ⟨by omega, by have h1 := (unhide HD).1; rw [List.length_cons] at h1; omega⟩
              have HDD := hide hd'
              clear hd'
              go_wp2_with fail
              refine (unhide CPk).mono ?_
              rintro e u1 ⟨rfl, hu1⟩
              obtain rfl := hu1.symm
              clear hu1
              go_wp2_with fail
              refine (unhide CC).mono ?_
              rintro e u2 ⟨rfl, L⟩
              have HL2 : Hid (Liv w4 K u2 s Y (Dr ++ [X])) := hide L
              clear L CC CPk e0 e1 e2 e3 e4 e5 e6 e7
              go_wp2_with fail
              go_roundw
              case rel => exact ⟨i + 1, d', Y, Dr, (by have := unhide HDD; first | rfl | (congr 1; omega)), by go_num, unhide HI1, (unhide HD1).1, hide ⟨(unhide HD1).2, unhide HL2⟩⟩
              case measure => have := unhide HI1; simp [intOf]; omega
          · -- anything else is done
            have k4 : (k9 == 4) = false := by simp [hk.1]
            have k5 : (k9 == 5) = false := by simp [hk.2.1]
            have k6 : (k9 == 6) = false := by simp [hk.2.2]
            have CPk := hide CPk
            have HDL := hide (unhide HD).1
            clear hk hk9
            go_wp2_with fail
            refine (unhide CPk).mono ?_
            rintro e u1 ⟨rfl, hu1⟩
            obtain rfl := hu1.symm
            clear hu1
            go_wp2_with fail
            refine (unhide CD).mono ?_
            rintro e u2 ⟨⟨r, rfl⟩, L⟩
            have HL2 := hide L
            clear L CD CPk e0 e1 e2 e3 e4 e5 e6 e7 k4 k5 k6
            have HDI : Hid (d ≤ i + 1) := hide (by omega)
            go_wp2_with fail
            go_roundw
            case rel => exact ⟨i + 1, d, _, Ds, rfl, by go_num, unhide HI1, unhide HDI, hide ⟨unhide HDL, unhide HL2⟩⟩
            case measure => have := unhide HI1; simp [intOf]; omega
        · have i2 : ¬ (i : Int) < (n2 : Int) := by omega
          have hdb : d ≤ 1400000000000 := by omega
          go_wp2_with fail
          go_loopw [9] (fun y wr => ∃ (d : Nat) (Y : Xs) (Ds : List Xs), y = .int .i64 (d : Int) ∧ d ≤ 1400000000000 ∧ Hid (Ds.length = d ∧ Liv w4 K wr s Y (Ds ++ [X]))) (fun y _ => (intOf y).toNat)
          case atStart => exact ⟨d, Y, Ds, rfl, hdb, HD⟩
          case round =>
            clear HD hd hdb
            obtain ⟨d, Y, Ds, rfl, hdb, HD⟩ := hrel
            cases Ds with
            | cons D0 Dr =>
              obtain ⟨d', hd'⟩ : ∃ d', d = d' + 1 := ⟨Dr.length, by rw [← (unhide HD).1]; rfl⟩
              have g1 : (0 : Int) < (d : Int) := by omega
              have w1 : IntKind.i64.wrap ((d : Int) - 1) = (d' : Int) := by rw [IntKind.wrap_i64]; omega
              have CC := hide (liv_commit (unhide HD).2)
              have HD1 : Hid (d' ≤ 1400000000000 ∧ Dr.length = d') := hide ⟨by omega, by have h1 := (unhide HD).1; rw [List.length_cons] at h1; omega⟩
              have HDD := hide hd'
              clear hd'
              go_wp2_with fail
              refine (unhide CC).mono ?_
              rintro e u2 ⟨rfl, L⟩
              have HL2 : Hid (Liv w4 K u2 s Y (Dr ++ [X])) := hide L
              clear L CC
              go_wp2_with fail
              go_roundw
              case rel => exact ⟨d', Y, Dr, (by have := unhide HDD; first | rfl | (congr 1; omega)), (unhide HD1).1, hide ⟨(unhide HD1).2, unhide HL2⟩⟩
              case measure => have := unhide HDD; simp [intOf]; omega
            | nil =>
              have hd0 : d = 0 := (unhide HD).1.symm
              subst hd0
              have CO := hide (liv_open (unhide HD).2)
              have CRb := hide (liv_rollback (B := X) (Bs := []) (unhide HD).2)
              go_wp2_with fail
              refine (unhide CO).mono ?_
              rintro e u1 ⟨rfl, hu1⟩
              obtain rfl := hu1.symm
              clear hu1
              go_wp2_with fail
              refine (unhide CRb).mono ?_
              rintro e u2 ⟨rfl, L⟩
              have CO2 := hide (liv_open L)
              have HL := hide L
              clear L CO CRb
              go_wp2_with fail
              refine (unhide CO2).mono ?_
              rintro e u3 ⟨rfl, hu3⟩
              obtain rfl := hu3.symm
              clear hu3 CO2
              have CE := liv_entries (unhide HL)
              rw [unhide HM] at CE
              have CE := hide CE
              go_wp2_with fail
              refine (unhide CE).mono ?_
              rintro e u4 ⟨al2, cl2, rfl, E5, b5⟩
              have L5 := (unhide HL).later b5
              have N5 : IsE u4 (fun b => b < u4.heap.size) X al2 cl2 := E5.weak (fun b hb => hb.2)
              have hfac := L5.facts
              have hfr := from_ok hfac.1 hfac.2.1 hfac.2.2.1 hfac.2.2.2
              have CFr := from_any X al2 m cl2 u4 (unhide HM) N5
              have CFr : Hid (Calls Try.prog 16 #[.slice al2 m cl2] u4 fun e w' => ∃ s2, e = .returned (.tuple #[.pointer (some ⟨s2, 0, none⟩), .int .i64 0]) ∧ Live u4 w' s2 X []) := hide (CFr.mono (fun e w' hh => by
                rcases hh with ⟨_, s2, rfl, L⟩ | ⟨hne, _⟩
                · exact ⟨s2, rfl, L⟩
                · exact absurd hfr hne))
              have H6 := hide (And.intro L5 N5)
              clear E5 b5 L5 N5 hfac hfr CE HL
              go_wp2_with fail
              refine (unhide CFr).mono ?_
              rintro e u5 ⟨s2, rfl, L6⟩
              have L7 := (unhide H6).1.later L6.below
              have A1 : IsE u5 (fun b => b < u5.heap.size) X al2 cl2 := ((unhide H6).2.later L6.below).weak (fun b hb => Nat.lt_of_lt_of_le hb L6.below.size)
              have A2 : IsE u5 (fun b => b < u5.heap.size) X al cl := ((unhide H4).1.move (fun b hb => L7.kept (unhide HK b (.inr hb)))).weak (fun b hb => Nat.lt_of_lt_of_le hb.2 L7.size)
              have CS := hide (sameEn_any X X al2 al m m cl2 cl u5.heap.size u5 (unhide HM) (unhide HM) A1 A2 (Nat.le_refl _))
              have H7 := hide (And.intro L6 L7)
              clear L6 L7 A1 A2 CFr H6
              go_wp2_with fail
              refine (unhide CS).mono ?_
              rintro e u6 ⟨r, rfl, hr, b6⟩
              obtain rfl : r = true := hr.2 (smP_refl _)
              have CW1 := hide (live_weight ((unhide H7).1.later b6))
              have CW2 := hide (liv_weight ((unhide H7).2.later b6))
              have CRb := hide (liv_rollback0 ((unhide H7).2.later b6))
              have HF : Hid (Below w.heap.size w u6) := hide (unhide HBW u6 _ _ ((unhide H7).2.later b6))
              clear hr b6 CS H7
              go_wp2_with fail
              refine (unhide CW1).mono ?_
              rintro e u7 ⟨rfl, hu7⟩
              obtain rfl := hu7.symm
              clear hu7
              go_wp2_with fail
              refine (unhide CW2).mono ?_
              rintro e u7 ⟨rfl, hu7⟩
              obtain rfl := hu7.symm
              clear hu7
              go_wp2_with fail
              refine (unhide CRb).mono ?_
              rintro e u8 ⟨rfl, b8⟩
              have HF8 : Hid (Below w.heap.size w u8) := hide ((unhide HF).trans (b8.mono (unhide HF).size))
              clear b8
              go_wp2_with fail
              go_ret
              exact ⟨by simp, unhide HF8⟩
end Go.Proofs.Ytdaooapfokhfcaa
