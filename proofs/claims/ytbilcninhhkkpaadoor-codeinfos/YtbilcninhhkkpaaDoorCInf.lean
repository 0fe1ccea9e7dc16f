/-
  The walk of CodeInfos: every Info and Named is the document's; conditions: the package's variables.
-/
import Derived.Test.YtbilcninhhkkpaaDoorCRef2
import Derived.Test.YtbilcninhhkkpaaDoorCShown
import Derived.Test.YtbilcninhhkkpaaDoorCRows
namespace Go.Proofs.YtbilcninhhkkpaaDoor
open Go.RowKit

theorem inf_cells {w : World} {g : Nat} {s : ByteArray} {a b c d f : Int} (h : w.heap[g]? = some (.cells #[.string s, .int .i64 a, .int .i64 b, .int .i64 c, .int .i64 d, .int .i64 f] 25 (0, 0))) :
    w.cell? ⟨g, 0, none⟩ = some (.string s) ∧ w.cell? ⟨g, 1, none⟩ = some (.int .i64 a) ∧ w.cell? ⟨g, 2, none⟩ = some (.int .i64 b) ∧ w.cell? ⟨g, 3, none⟩ = some (.int .i64 c) ∧ w.cell? ⟨g, 4, none⟩ = some (.int .i64 d) ∧ w.cell? ⟨g, 5, none⟩ = some (.int .i64 f) :=
  ⟨by rw [cell_of_row w _ 0 _ _ (0, 0) h]; rfl, by rw [cell_of_row w _ 1 _ _ (0, 0) h]; rfl, by rw [cell_of_row w _ 2 _ _ (0, 0) h]; rfl, by rw [cell_of_row w _ 3 _ _ (0, 0) h]; rfl, by rw [cell_of_row w _ 4 _ _ (0, 0) h]; rfl, by rw [cell_of_row w _ 5 _ _ (0, 0) h]; rfl⟩

theorem nidx_ret : (OPS.tail.findIdx fun x => x.1.data.toList == [114, 101, 116]) = 8 := by decide +kernel

theorem namA_ret : namA ⟨#[114, 101, 116]⟩ = (9, true) := by
  have e : nidx ⟨#[114, 101, 116]⟩ = 8 := by
    unfold nidx
    simp only [ByteArray.toList_eq]
    exact nidx_ret
  unfold namA
  rw [e]
  rfl

set_option maxRecDepth 100000 in
set_option maxHeartbeats 1000000 in
theorem infos_walk (ai an : Option Addr) (li ci ln cn : Nat) (ks : List Int) (ns : List ByteArray) (w : World) (h : Tab2 w) (hi : RowI w ai li ks) (hn : RowS w an ln ns) (hml : li ≤ 9223372036854775807) (hmn : ln ≤ 9223372036854775807) :
    Calls Tryd.prog 3 #[.slice ai li ci, .slice an ln cn] w fun e w' => e = .returned (.bool true) ∧ Below w.heap.size w w' := by
  have HT := hide h
  have HI := hide hi
  have HN := hide hn
  have HM := hide (And.intro hml hmn)
  clear h hi hn hml hmn
  go_enter Tryd.func3, Tryd.ntmps3
  go_wp2_with fail
  go_loopw [5] (fun x wr => ∃ (i : Nat), x = .int .i64 (i : Int) ∧ Hid (i ≤ li ∧ Below w.heap.size w wr)) (fun x _ => li - (intOf x).toNat)
  case atStart => exact ⟨0, rfl, hide ⟨by omega, Below.refl _ _⟩⟩
  case round =>
    obtain ⟨i, rfl, HX⟩ := hrel
    obtain ⟨wq, hwq⟩ : ∃ wq, wq = wr := ⟨_, rfl⟩
    subst hwq
    have hmi := (unhide HM).1
    by_cases hlt : i < li
    · have i1 : (i : Int) < (li : Int) := by omega
      obtain ⟨z, hz⟩ : ∃ z, ks[i]? = some z := ⟨_, List.getElem?_eq_getElem (by rw [(unhide HI).1]; exact hlt)⟩
      obtain ⟨b, o, rfl, ct⟩ := ((unhide HI).later (unhide HX).2).2 i z hz
      have C1 := hide (info_any z wq ((unhide HT).below (unhide HX).2).tab)
      have C2 := fun u => hide (rinfo_any z u)
      obtain ⟨x, hx⟩ : ∃ x, (infoA z).1 = x := ⟨_, rfl⟩
      obtain ⟨r, hr⟩ : ∃ r, (infoA z).2 = r := ⟨_, rfl⟩
      rw [hx, hr] at C1
      rw [hx, hr] at C2
      obtain ⟨xn, xa, xb, xc, xd, xf⟩ := x
      simp only [infV] at C1 C2
      have HL := hide hlt
      have HC := hide ct
      have hbq : b < wq.heap.size := World.block_lt_of_cell? _ _ ct
      clear hz hx hr hlt
      go_wp2_with fail
      refine (unhide C1).mono ?_
      rintro e w2 ⟨rfl, B2⟩
      have H2 := hide B2
      clear B2
      go_upto_region 5 with fail
      obtain ⟨w3, hw3⟩ : ∃ w3, w3 = w2.alloc (.cells #[.string xn, .int .i64 xa, .int .i64 xb, .int .i64 xc, .int .i64 xd, .int .i64 xf] 25) := ⟨_, rfl⟩
      rw [← hw3]
      have A3 : Hid (w3.heap[w2.heap.size]? = some (.cells #[.string xn, .int .i64 xa, .int .i64 xb, .int .i64 xc, .int .i64 xd, .int .i64 xf] 25 (0, 0))) := hide (by rw [hw3]; exact heap_alloc_new w2 _)
      have S3 : Hid (w3.heap.size = w2.heap.size + 1) := hide (by rw [hw3]; simp)
      have B3 : Hid (Below wq.heap.size wq w3) := hide (by rw [hw3]; exact (unhide H2).alloc (unhide H2).size _)
      clear hw3 ct
      have ct := cell_later (unhide B3) (unhide HC)
      go_wp2_with fail
      refine (unhide (C2 w3)).mono ?_
      rintro e w4 ⟨rfl, B4⟩
      have H4 := hide B4
      have l4 : w2.heap.size < w4.heap.size := by have := unhide S3; have := B4.size; omega
      clear B4 ct
      have A4 : Hid (w4.heap[w2.heap.size]? = some (.cells #[.string xn, .int .i64 xa, .int .i64 xb, .int .i64 xc, .int .i64 xd, .int .i64 xf] 25 (0, 0))) := hide (((unhide H4).block _ (by rw [unhide S3]; omega)).trans (unhide A3))
      go_upto_region 6 with fail
      obtain ⟨w5, hw5⟩ : ∃ w5, w5 = w4.alloc (.cells #[.string xn, .int .i64 xa, .int .i64 xb, .int .i64 xc, .int .i64 xd, .int .i64 xf] 25) := ⟨_, rfl⟩
      rw [← hw5]
      have A5 : w5.heap[w4.heap.size]? = some (.cells #[.string xn, .int .i64 xa, .int .i64 xb, .int .i64 xc, .int .i64 xd, .int .i64 xf] 25 (0, 0)) := by rw [hw5]; exact heap_alloc_new w4 _
      have A5' : w5.heap[w2.heap.size]? = some (.cells #[.string xn, .int .i64 xa, .int .i64 xb, .int .i64 xc, .int .i64 xd, .int .i64 xf] 25 (0, 0)) := by rw [hw5, heap_alloc_old w4 _ l4]; exact unhide A4
      have B5 : Hid (Below w.heap.size w w5) := hide (by
        rw [hw5]
        have h3 := (unhide HX).2.trans ((unhide B3).mono (unhide HX).2.size)
        have h4 := h3.trans ((unhide H4).mono h3.size)
        exact h4.alloc h4.size _)
      obtain ⟨c0, c1, c2, c3, c4, c5⟩ := inf_cells A5'
      obtain ⟨d0, d1, d2, d3, d4, d5⟩ := inf_cells A5
      clear hw5 A3 A4 A5 A5' S3 B3 H2 H4 C1 C2 HC
      have HI1 : Hid (i + 1 ≤ li) := hide (by have := unhide HL; omega)
      go_wp2_with fail
      go_roundw
      case rel => exact ⟨i + 1, by go_num, hide ⟨unhide HI1, unhide B5⟩⟩
      case measure => have := unhide HL; simp [intOf]; omega
    · have hi : i = li := by have := (unhide HX).1; omega
      subst hi
      have HQ := hide (unhide HX).2
      clear HX
      go_wp2_with fail
      go_loopw [10] (fun x wr => ∃ (j : Nat), x = .int .i64 (j : Int) ∧ Hid (j ≤ ln ∧ Below w.heap.size w wr)) (fun x _ => ln - (intOf x).toNat)
      case atStart => exact ⟨0, rfl, hide ⟨by omega, unhide HQ⟩⟩
      case round =>
        clear HQ
        obtain ⟨j, rfl, HX⟩ := hrel
        obtain ⟨wp, hwp⟩ : ∃ wp, wp = wr := ⟨_, rfl⟩
        subst hwp
        have hmn := (unhide HM).2
        by_cases hlt : j < ln
        · have j1 : (j : Int) < (ln : Int) := by omega
          obtain ⟨z, hz⟩ : ∃ z, ns[j]? = some z := ⟨_, List.getElem?_eq_getElem (by rw [(unhide HN).1]; exact hlt)⟩
          obtain ⟨b, o, rfl, ct⟩ := ((unhide HN).later (unhide HX).2).2 j z hz
          have C1 := hide (named_any z wp ((unhide HT).below (unhide HX).2).tab)
          have C2 := fun u => hide (rnamed_any z u)
          obtain ⟨q, hq⟩ : ∃ q, (namA z).1 = q := ⟨_, rfl⟩
          obtain ⟨r, hr⟩ : ∃ r, (namA z).2 = r := ⟨_, rfl⟩
          rw [hq, hr] at C1
          rw [hq, hr] at C2
          have HL := hide hlt
          have HC := hide ct
          have hbq : b < wp.heap.size := World.block_lt_of_cell? _ _ ct
          have HI1 : Hid (j + 1 ≤ ln) := hide (by omega)
          clear hz hq hr hlt
          go_wp2_with fail
          refine (unhide C1).mono ?_
          rintro e w2 ⟨rfl, B2⟩
          have H2 := hide B2
          clear B2 ct
          have ct := cell_later (unhide H2) (unhide HC)
          go_wp2_with fail
          refine (unhide (C2 w2)).mono ?_
          rintro e w3 ⟨rfl, B3⟩
          have H3 : Hid (Below w.heap.size w w3) := hide (by
            have h3 := (unhide HX).2.trans ((unhide H2).mono (unhide HX).2.size)
            exact h3.trans (B3.mono h3.size))
          clear B3 ct
          go_wp2_with fail
          go_roundw
          case rel => exact ⟨j + 1, by go_num, hide ⟨unhide HI1, unhide H3⟩⟩
          case measure => have := unhide HL; simp [intOf]; omega
        · have hj : j = ln := by have := (unhide HX).1; omega
          subst hj
          have C1 := hide (shown_any wp ((unhide HT).below (unhide HX).2))
          have C2 : Hid (∀ u, Below w.heap.size w u → _) := hide (fun u (hu : Below w.heap.size w u) => named_any ⟨#[114, 101, 116]⟩ u ((unhide HT).below hu).tab)
          rw [namA_ret] at C2
          have HQ := hide (unhide HX).2
          clear HX
          go_wp2_with fail
          refine (unhide C1).mono ?_
          rintro e w2 ⟨rfl, B2⟩
          have H2 := hide ((unhide HQ).trans (B2.mono (unhide HQ).size))
          clear B2
          go_wp2_with fail
          refine (unhide C2 w2 (unhide H2)).mono ?_
          rintro e w3 ⟨rfl, B3⟩
          have H3 := hide ((unhide H2).trans (B3.mono (unhide H2).size))
          clear B3
          go_wp2_with fail
          go_ret
          exact ⟨rfl, unhide H3⟩
end Go.Proofs.YtbilcninhhkkpaaDoor
