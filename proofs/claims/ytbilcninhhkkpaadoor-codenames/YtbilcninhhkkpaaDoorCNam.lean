/-
  The walk of CodeNames: all operations from 1 to 41 and no others are there, each under a name of its own; conditions: the package's table.
-/
import Derived.Test.YtbilcninhhkkpaaDoorCPick
import Derived.Laws.Strings
namespace Go.Proofs.YtbilcninhhkkpaaDoor
open Go.RowKit

theorem ops_named : ∀ i : Fin 41, (OPS.tail.findIdx fun x => x.1.data.toList == (OPS.getD (i.val + 1) blank).1.data.toList) = i.val := by decide +kernel

theorem ops_fit : ∀ i : Fin 41, 1 ≤ (OPS.getD (i.val + 1) blank).2.2.2.2.1 ∧ 0 ≤ (OPS.getD (i.val + 1) blank).2.2.2.2.2 ∧ 0 ≤ (OPS.getD (i.val + 1) blank).2.2.2.1 ∧ (OPS.getD (i.val + 1) blank).2.2.2.1 ≤ 1 := by decide +kernel

theorem nidx_own (i : Nat) (h1 : 1 ≤ i) (h2 : i ≤ 41) : nidx (OPS.getD i blank).1 = i - 1 := by
  have h := ops_named ⟨i - 1, by omega⟩
  simp only [show i - 1 + 1 = i by omega] at h
  unfold nidx
  simp only [ByteArray.toList_eq]
  exact h

theorem namA_own (i : Nat) (h1 : 1 ≤ i) (h2 : i ≤ 41) : namA (OPS.getD i blank).1 = ((i : Int), true) := by
  unfold namA
  rw [nidx_own i h1 h2, if_pos (by omega), show i - 1 + 1 = i by omega]

theorem names_apart (i k : Nat) (h1 : 1 ≤ i) (h2 : i ≤ 41) (k1 : 1 ≤ k) (k2 : k ≤ 41) : ((OPS.getD i blank).1.toList == (OPS.getD k blank).1.toList) = decide (i = k) := by
  by_cases h : i = k
  · subst h; simp
  · have a := nidx_own i h1 h2
    have b := nidx_own k k1 k2
    have : ¬ (OPS.getD i blank).1.toList = (OPS.getD k blank).1.toList := by
      intro e
      unfold nidx at a b
      rw [e, b] at a
      omega
    rw [decide_eq_false h]
    simpa using this

theorem infoA_at (i : Nat) (h1 : 1 ≤ i) (h2 : i ≤ 41) : infoA (i : Int) = (OPS.getD i blank, true) := by
  unfold infoA
  rw [if_pos (by omega)]
  simp

theorem pickI_nat (op : Int) : ∃ k : Nat, pickI op 41 + 1 = (k : Int) ∧ 1 ≤ k ∧ k ≤ 41 := by
  have : 0 ≤ pickI op 41 ∧ pickI op 41 < 41 := by unfold pickI; exact ⟨Int.emod_nonneg _ (by omega), Int.emod_lt_of_pos _ (by omega)⟩
  exact ⟨(pickI op 41 + 1).toNat, by omega, by omega, by omega⟩

set_option maxRecDepth 100000 in
set_option maxHeartbeats 1000000 in
theorem names_walk (op : Int) (w : World) (h : Tab w) (h0 : -9223372036854775808 ≤ op) (h1 : op ≤ 9223372036854775807) :
    Calls Tryd.prog 4 #[.int .i64 op] w fun e w' => e = .returned (.bool true) ∧ Below w.heap.size w w' := by
  have HT := hide h
  have hb : 0 < w.heap.size := h.big
  have CP := hide (pick_any op 41 w h0 h1 (by omega) (by omega))
  clear h
  obtain ⟨k, hk, k1, k2⟩ := pickI_nat op
  have pk : 0 ≤ pickI op 41 ∧ pickI op 41 ≤ 40 := by omega
  have pk1 : IntKind.i64.wrap (pickI op 41 + 1) = (k : Int) := by rw [IntKind.wrap_i64]; omega
  obtain ⟨P, hP⟩ : ∃ P, pickI op 41 = P := ⟨_, rfl⟩
  rw [hP] at CP pk1 pk hk
  clear hP
  have HK := hide (And.intro k1 k2)
  have HOP := hide (And.intro h0 h1)
  clear k1 k2
  go_enter Tryd.func4, Tryd.ntmps4
  go_wp2_with fail
  refine (unhide CP).mono ?_
  rintro e w1 ⟨rfl, rfl⟩
  go_wp2_with fail
  clear pk1 pk hk
  go_loopw [4] (fun x wr => ∃ (i : Nat), x = .int .i64 (i : Int) ∧ Hid (1 ≤ i ∧ i ≤ 42 ∧ Below w1.heap.size w1 wr)) (fun x _ => 42 - (intOf x).toNat)
  case atStart => exact ⟨1, rfl, hide ⟨by omega, by omega, Below.refl _ _⟩⟩
  case round =>
    obtain ⟨i, rfl, HX⟩ := hrel
    obtain ⟨wq, hwq⟩ : ∃ wq, wq = wr := ⟨_, rfl⟩
    subst hwq
    by_cases hlt : i < 42
    · have i1 : (i : Int) ≤ 41 := by omega
      have e1 := infoA_at i (unhide HX).1 (by omega)
      have e2 := infoA_at k (unhide HK).1 (unhide HK).2
      have e3 := namA_own i (unhide HX).1 (by omega)
      have e4 := names_apart i k (unhide HX).1 (by omega) (unhide HK).1 (unhide HK).2
      have e5 := ops_fit ⟨i - 1, by omega⟩
      simp only [show i - 1 + 1 = i by have := (unhide HX).1; omega] at e5
      have HQ := hide (unhide HX).2.2
      have C1 := hide (info_any (i : Int) wq ((unhide HT).below (unhide HQ)))
      rw [e1] at C1
      have C2 : Hid (∀ u, Below w1.heap.size w1 u → _) := hide (fun u (hu : Below w1.heap.size w1 u) => info_any (k : Int) u ((unhide HT).below hu))
      rw [e2] at C2
      have C3 : Hid (∀ u, Below w1.heap.size w1 u → _) := hide (fun u (hu : Below w1.heap.size w1 u) => named_any (OPS.getD i blank).1 u ((unhide HT).below hu))
      rw [e3] at C3
      generalize OPS.getD i blank = x at *
      generalize OPS.getD k blank = y at *
      obtain ⟨xn, xa, xb, xc, xd, xf⟩ := x
      obtain ⟨yn, ya, yb, yc, yd, yf⟩ := y
      simp only [infV] at C1 C2 C3 e4 e5
      have hd1 : decide (xd < 1) = false := by simp; omega
      have hd2 : decide (xf < 0) = false := by simp; omega
      have hd3 : decide (xc < 0) = false := by simp; omega
      have hd4 : decide (1 < xc) = false := by simp; omega
      have x1 : ¬ xd < 1 := by omega
      have x2 : ¬ xf < 0 := by omega
      have x3 : ¬ xc < 0 := by omega
      have x4 : ¬ 1 < xc := by omega
      have HI1 : Hid (1 ≤ i + 1 ∧ i + 1 ≤ 42) := hide (by omega)
      have HL := hide hlt
      clear e1 e2 e3 e5 hlt
      go_wp2_with fail
      refine (unhide C1).mono ?_
      rintro e w2 ⟨rfl, B2⟩
      have H2 := hide B2
      clear B2
      go_wp2_with fail
      obtain ⟨w3, hw3⟩ : ∃ w3, w3 = w2.alloc (.cells #[.string xn, .int .i64 xa, .int .i64 xb, .int .i64 xc, .int .i64 xd, .int .i64 xf] 25) := ⟨_, rfl⟩
      rw [← hw3]
      have A3 : Hid (w3.heap[w2.heap.size]? = some (.cells #[.string xn, .int .i64 xa, .int .i64 xb, .int .i64 xc, .int .i64 xd, .int .i64 xf] 25 (0, 0))) := hide (by rw [hw3]; exact heap_alloc_new w2 _)
      have S3 : Hid (w3.heap.size = w2.heap.size + 1) := hide (by rw [hw3]; simp)
      have B3 : Hid (Below w1.heap.size w1 w3) := hide (by
        rw [hw3]
        exact ((unhide HQ).trans ((unhide H2).mono (unhide HQ).size)).alloc (Nat.le_trans (unhide HQ).size (unhide H2).size) _)
      clear hw3
      refine (unhide C2 w3 (unhide B3)).mono ?_
      rintro e w4 ⟨rfl, B4⟩
      have H4 := hide B4
      clear B4
      have A4 : Hid (w4.heap[w2.heap.size]? = some (.cells #[.string xn, .int .i64 xa, .int .i64 xb, .int .i64 xc, .int .i64 xd, .int .i64 xf] 25 (0, 0))) := hide (((unhide H4).block _ (by rw [unhide S3]; omega)).trans (unhide A3))
      have l4 : w2.heap.size < w4.heap.size := by have := unhide S3; have := (unhide H4).size; omega
      have c0 : w4.cell? ⟨w2.heap.size, 0, none⟩ = some (.string xn) := by rw [cell_of_row w4 _ 0 _ _ (0, 0) (unhide A4)]; rfl
      have HY : Hid (Below w1.heap.size w1 w4) := hide ((unhide B3).trans ((unhide H4).mono (unhide B3).size))
      clear B3
      go_upto_region 7 with fail
      obtain ⟨w5, hw5⟩ : ∃ w5, w5 = w4.alloc (.cells #[.string yn, .int .i64 ya, .int .i64 yb, .int .i64 yc, .int .i64 yd, .int .i64 yf] 25) := ⟨_, rfl⟩
      rw [← hw5]
      have A5 : Hid (w5.heap[w4.heap.size]? = some (.cells #[.string yn, .int .i64 ya, .int .i64 yb, .int .i64 yc, .int .i64 yd, .int .i64 yf] 25 (0, 0))) := hide (by rw [hw5]; exact heap_alloc_new w4 _)
      have A5' : Hid (w5.heap[w2.heap.size]? = some (.cells #[.string xn, .int .i64 xa, .int .i64 xb, .int .i64 xc, .int .i64 xd, .int .i64 xf] 25 (0, 0))) := hide (by rw [hw5, heap_alloc_old w4 _ l4]; exact unhide A4)
      have S5 : Hid (w5.heap.size = w4.heap.size + 1) := hide (by rw [hw5]; simp)
      have B5 : Hid (Below w1.heap.size w1 w5) := hide (by
        rw [hw5]
        exact (unhide HY).alloc (unhide HY).size _)
      clear hw5 c0
      have c0 : w5.cell? ⟨w2.heap.size, 0, none⟩ = some (.string xn) := by rw [cell_of_row w5 _ 0 _ _ (0, 0) (unhide A5')]; rfl
      go_wp2_with fail
      refine (unhide C3 w5 (unhide B5)).mono ?_
      rintro e w6 ⟨rfl, B6⟩
      have H6 := hide B6
      clear B6 c0
      have A6 : Hid (w6.heap[w2.heap.size]? = some (.cells #[.string xn, .int .i64 xa, .int .i64 xb, .int .i64 xc, .int .i64 xd, .int .i64 xf] 25 (0, 0))) := hide (((unhide H6).block _ (by rw [unhide S5]; omega)).trans (unhide A5'))
      have A6' : Hid (w6.heap[w4.heap.size]? = some (.cells #[.string yn, .int .i64 ya, .int .i64 yb, .int .i64 yc, .int .i64 yd, .int .i64 yf] 25 (0, 0))) := hide (((unhide H6).block _ (by rw [unhide S5]; omega)).trans (unhide A5))
      have B6 : Hid (Below w1.heap.size w1 w6) := hide ((unhide B5).trans ((unhide H6).mono (unhide B5).size))
      have c0 : w6.cell? ⟨w2.heap.size, 0, none⟩ = some (.string xn) := by rw [cell_of_row w6 _ 0 _ _ (0, 0) (unhide A6)]; rfl
      have c3 : w6.cell? ⟨w2.heap.size, 3, none⟩ = some (.int .i64 xc) := by rw [cell_of_row w6 _ 3 _ _ (0, 0) (unhide A6)]; rfl
      have c4 : w6.cell? ⟨w2.heap.size, 4, none⟩ = some (.int .i64 xd) := by rw [cell_of_row w6 _ 4 _ _ (0, 0) (unhide A6)]; rfl
      have c5 : w6.cell? ⟨w2.heap.size, 5, none⟩ = some (.int .i64 xf) := by rw [cell_of_row w6 _ 5 _ _ (0, 0) (unhide A6)]; rfl
      have d0 : w6.cell? ⟨w4.heap.size, 0, none⟩ = some (.string yn) := by rw [cell_of_row w6 _ 0 _ _ (0, 0) (unhide A6')]; rfl
      clear A3 A4 A5 A5' A6 A6' S3 S5 H2 H4 H6 HY
      by_cases hik : i = k
      · have e6 : (xn.toList == yn.toList) = true := by rw [e4]; simp [hik]
        subst hik
        clear e4
        go_wp2_with fail
        go_roundw
        case rel => exact ⟨i + 1, by go_num, hide ⟨(unhide HI1).1, (unhide HI1).2, unhide B6⟩⟩
        case measure => have := unhide HL; simp [intOf]; omega
      · have e6 : (xn.toList == yn.toList) = false := by rw [e4]; simp [hik]
        have e7 : ¬ (i : Int) = (k : Int) := by omega
        have e8 : ((i : Int) == (k : Int)) = false := by simpa using e7
        clear e4
        go_wp2_with fail
        go_roundw
        case rel => exact ⟨i + 1, by go_num, hide ⟨(unhide HI1).1, (unhide HI1).2, unhide B6⟩⟩
        case measure => have := unhide HL; simp [intOf]; omega
    · have hi : i = 42 := by have := (unhide HX).2.1; omega
      subst hi
      have HQ := hide (unhide HX).2.2
      have C1 := hide (info_any op wq ((unhide HT).below (unhide HQ)))
      have C2 : Hid (∀ u, Below w1.heap.size w1 u → _) := hide (fun u (hu : Below w1.heap.size w1 u) => info_any 0 u ((unhide HT).below hu))
      have C3 : Hid (∀ u, Below w1.heap.size w1 u → _) := hide (fun u (hu : Below w1.heap.size w1 u) => info_any 42 u ((unhide HT).below hu))
      rw [show infoA 0 = (blank, false) by decide] at C2
      rw [show infoA 42 = (blank, false) by decide] at C3
      have e1 : (infoA op).2 = decide (1 ≤ op ∧ op ≤ 41) := by unfold infoA; split <;> simp_all
      rw [e1] at C1
      generalize (infoA op).1 = x at *
      obtain ⟨xn, xa, xb, xc, xd, xf⟩ := x
      simp only [infV, blank] at C1 C2 C3
      clear e1
      obtain ⟨r, hr⟩ : ∃ r, decide (1 ≤ op ∧ op ≤ 41) = r := ⟨_, rfl⟩
      rw [hr] at C1
      go_wp2_with fail
      refine (unhide C1).mono ?_
      rintro e w2 ⟨rfl, B2⟩
      have H2 := hide ((unhide HQ).trans (B2.mono (unhide HQ).size))
      clear B2
      go_upto_region 11 with fail
      obtain ⟨w3, hw3⟩ : ∃ w3, w3 = w2.alloc (.cells #[.string xn, .int .i64 xa, .int .i64 xb, .int .i64 xc, .int .i64 xd, .int .i64 xf] 25) := ⟨_, rfl⟩
      rw [← hw3]
      have B3 : Hid (Below w1.heap.size w1 w3) := hide (by rw [hw3]; exact (unhide H2).alloc (unhide H2).size _)
      clear hw3
      go_wp2_with fail
      refine (unhide C2 w3 (unhide B3)).mono ?_
      rintro e w4 ⟨rfl, B4⟩
      have H4 := hide ((unhide B3).trans (B4.mono (unhide B3).size))
      clear B4
      go_upto_region 12 with fail
      obtain ⟨w5, hw5⟩ : ∃ w5, w5 = w4.alloc (.cells #[.string ⟨#[]⟩, .int .i64 0, .int .i64 0, .int .i64 0, .int .i64 0, .int .i64 0] 25) := ⟨_, rfl⟩
      rw [← hw5]
      have B5 : Hid (Below w1.heap.size w1 w5) := hide (by rw [hw5]; exact (unhide H4).alloc (unhide H4).size _)
      clear hw5
      go_wp2_with fail
      refine (unhide C3 w5 (unhide B5)).mono ?_
      rintro e w6 ⟨rfl, B6⟩
      have H6 := hide ((unhide B5).trans (B6.mono (unhide B5).size))
      clear B6
      go_upto_region 13 with fail
      obtain ⟨w7, hw7⟩ : ∃ w7, w7 = w6.alloc (.cells #[.string ⟨#[]⟩, .int .i64 0, .int .i64 0, .int .i64 0, .int .i64 0, .int .i64 0] 25) := ⟨_, rfl⟩
      rw [← hw7]
      have B7 : Hid (Below w1.heap.size w1 w7) := hide (by rw [hw7]; exact (unhide H6).alloc (unhide H6).size _)
      clear hw7
      by_cases o1 : 1 ≤ op
      · by_cases o2 : op ≤ 41
        · have : r = true := by rw [← hr]; simp [o1, o2]
          subst this
          clear hr
          go_wp2_with fail
          go_ret
          exact ⟨rfl, unhide B7⟩
        · have : r = false := by rw [← hr]; simp [o2]
          subst this
          clear hr
          go_wp2_with fail
          go_ret
          exact ⟨rfl, unhide B7⟩
      · have : r = false := by rw [← hr]; simp [o1]
        subst this
        clear hr
        go_wp2_with fail
        go_ret
        exact ⟨rfl, unhide B7⟩
end Go.Proofs.YtbilcninhhkkpaaDoor
