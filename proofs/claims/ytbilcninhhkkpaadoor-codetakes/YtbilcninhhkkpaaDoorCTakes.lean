/-
  The walk of CodeTakes: every Take is the document's, and what was handed in stays; conditions: the package's variables, the bytes at most 2^47 - 4096.
-/
import Derived.Test.YtbilcninhhkkpaaDoorCRTake
import Derived.Test.YtbilcninhhkkpaaDoorCShown
import Derived.Test.YtbilcninhhkkpaaDoorCLent
import Derived.Test.YtbilcninhhkkpaaDoorCRows
namespace Go.Proofs.YtbilcninhhkkpaaDoor
open Go.RowKit

set_option maxRecDepth 100000 in
set_option maxHeartbeats 2000000 in
theorem takes_walk (ab : Option Addr) (lb cb : Nat) (zs : List Int) (al : Option Addr) (ll cl : Nat) (ls : List Int) (w : World) (h : Tab2 w) (hz : Row8 w ab lb cb zs) (hcb : cb ≤ maxLen) (hl : RowI w al ll ls) (hml : ll ≤ 9223372036854775807) (hm : lb ≤ 140737488351232) :
    Calls Tryd.prog 6 #[.slice ab lb cb, .slice al ll cl] w fun e w' => e = .returned (.bool true) ∧ Below w.heap.size w w' := by
  have HALL : Hid (∀ u, Below w.heap.size w u → Tab2 u ∧ Row8 u ab lb cb zs ∧ RowI u al ll ls) := hide (fun u hu => ⟨h.below hu, hz.later hu, hl.later hu⟩)
  have hzl := hz.length
  have HZS := hide hz.small
  have HLL := hide hl.1
  have HCB := hide hcb
  clear h hz hl hcb
  go_enter Tryd.func6, Tryd.ntmps6
  go_wp2_with fail
  go_loopw [5] (fun x wr => ∃ (i : Nat), x = .int .i64 (i : Int) ∧ Hid (i ≤ ll ∧ Below w.heap.size w wr)) (fun x _ => ll - (intOf x).toNat)
  case atStart => exact ⟨0, rfl, hide ⟨by omega, Below.refl _ _⟩⟩
  case round =>
    obtain ⟨i, rfl, HX⟩ := hrel
    obtain ⟨wq, hwq⟩ : ∃ wq, wq = wr := ⟨_, rfl⟩
    subst hwq
    by_cases hlt : i < ll
    · have i1 : (i : Int) < (ll : Int) := by omega
      obtain ⟨p, hp⟩ : ∃ p, ls[i]? = some p := ⟨_, List.getElem?_eq_getElem (by rw [unhide HLL]; exact hlt)⟩
      have HQ := hide (unhide HX).2
      obtain ⟨tq, rq, nq⟩ := unhide HALL wq (unhide HQ)
      obtain ⟨b, o, rfl, cA⟩ := nq.2 i _ hp
      have HCC : Hid (∀ u, Below wq.heap.size wq u → u.cell? ⟨b, o + i, none⟩ = some (.int .i64 p)) := hide (fun u hu => cell_later hu cA)
      have C1 := hide (lent4 ab lb cb zs wq rq hm)
      obtain ⟨G, hG⟩ : ∃ G, wq.heap.size = G := ⟨_, rfl⟩
      rw [hG] at C1
      have C2 : Hid (∀ u, Below G wq u → G ≤ u.heap.size → Bys u G (zs ++ marks lb) → _) := hide (fun u hu hs hB => take_any (some ⟨G, 0, none⟩) lb (lb + 40) zs p u (tq.later hu (by rw [← hG]; exact tq.big) (by omega)) (by have := hB.row (unhide HZS) (lb + 40) (by omega); rw [hzl] at this; exact this) (by omega))
      have C3 : Hid (∀ u, Below G wq u → _) := hide (fun u hu => rtake_any ab lb cb zs p u (by rw [← hG] at hu; exact rq.later hu) (unhide HCB))
      obtain ⟨t0, t1, t2, t3, hT⟩ : ∃ t0 t1 t2 t3, takeI zs p = (t0, t1, t2, t3) := ⟨_, _, _, _, rfl⟩
      rw [hT] at C2 C3
      simp only [takeV] at C2 C3
      have HL := hide hlt
      clear hp tq rq nq hT cA hlt
      go_wp2_with fail
      refine (unhide C1).mono ?_
      rintro e w1 ⟨rfl, A1, B1⟩
      have H1 := hide (And.intro A1 B1)
      have z1 := A1.lt
      have cA := unhide HCC w1 (by rw [hG]; exact B1)
      have C2a := hide (unhide C2 w1 B1 (by omega) A1)
      clear A1 B1 C1 C2
      go_wp2_with fail
      refine (unhide C2a).mono ?_
      rintro e w2 ⟨rfl, B2⟩
      have z2 := B2.size
      have X2 : Hid (Below G wq w2 ∧ Bys w2 G (zs ++ marks lb)) := hide ⟨(unhide H1).2.trans (B2.mono (by omega)), (B2.block G z1).trans (unhide H1).1⟩
      clear B2 C2a cA
      go_upto_region 6 with fail
      obtain ⟨w3, hw3⟩ : ∃ w3, w3 = w2.alloc (.cells #[.int .i64 t0, .int .i64 t1] 42) := ⟨_, rfl⟩
      rw [← hw3]
      have A3 : Hid (w3.heap[w2.heap.size]? = some (.cells #[.int .i64 t0, .int .i64 t1] 42 (0, 0))) := hide (by rw [hw3]; exact heap_alloc_new w2 _)
      have Z3 : w3.heap.size = w2.heap.size + 1 := by rw [hw3]; simp
      have X3 : Hid (Below G wq w3 ∧ Bys w3 G (zs ++ marks lb)) := hide (by rw [hw3]; exact ⟨(unhide X2).1.alloc (by omega) _, (heap_alloc_old w2 _ (by omega)).trans (unhide X2).2⟩)
      clear hw3
      have cA := unhide HCC w3 (by rw [hG]; exact (unhide X3).1)
      have C3a := hide (unhide C3 w3 (unhide X3).1)
      clear C3
      go_wp2_with fail
      refine (unhide C3a).mono ?_
      rintro e w4 ⟨rfl, B4⟩
      have z4 := B4.size
      have A4 : Hid (w4.heap[w2.heap.size]? = some (.cells #[.int .i64 t0, .int .i64 t1] 42 (0, 0))) := hide ((B4.block _ (by omega)).trans (unhide A3))
      have X4 : Hid (Below G wq w4 ∧ Bys w4 G (zs ++ marks lb)) := hide ⟨(unhide X3).1.trans (B4.mono (by omega)), (B4.block G (by omega)).trans (unhide X3).2⟩
      clear B4 C3a cA
      go_upto_region 7 with fail
      obtain ⟨w5, hw5⟩ : ∃ w5, w5 = w4.alloc (.cells #[.int .i64 t0, .int .i64 t1] 42) := ⟨_, rfl⟩
      rw [← hw5]
      have A5 : Hid (w5.heap[w4.heap.size]? = some (.cells #[.int .i64 t0, .int .i64 t1] 42 (0, 0)) ∧ w5.heap[w2.heap.size]? = some (.cells #[.int .i64 t0, .int .i64 t1] 42 (0, 0))) := hide (by rw [hw5]; exact ⟨heap_alloc_new w4 _, (heap_alloc_old w4 _ (by omega)).trans (unhide A4)⟩)
      have Z5 : w5.heap.size = w4.heap.size + 1 := by rw [hw5]; simp
      have X5 : Hid (Below G wq w5 ∧ Bys w5 G (zs ++ marks lb)) := hide (by rw [hw5]; exact ⟨(unhide X4).1.alloc (by omega) _, (heap_alloc_old w4 _ (by omega)).trans (unhide X4).2⟩)
      have Y5 : Hid (Below w.heap.size w w5) := hide ((unhide HQ).trans ((unhide X5).1.mono (by rw [← hG]; exact (unhide HQ).size)))
      clear hw5
      have CS := hide (still4 G ab lb cb zs w5 (unhide HALL w5 (unhide Y5)).2.1 (unhide HCB) hm (unhide X5).2)
      go_wp2_with fail
      refine (unhide CS).mono ?_
      rintro e w6 ⟨rfl, B6⟩
      obtain ⟨c0, c1⟩ := ins_cells ((B6.block _ (by omega)).trans (unhide A5).1)
      obtain ⟨d0, d1⟩ := ins_cells ((B6.block _ (by omega)).trans (unhide A5).2)
      have Y6 : Hid (Below w.heap.size w w6) := hide ((unhide Y5).trans (B6.mono (unhide Y5).size))
      have HI1 : Hid (i + 1 ≤ ll) := hide (by have := unhide HL; omega)
      clear B6 CS
      go_wp2_with fail
      go_roundw
      case rel => exact ⟨i + 1, by go_num, hide ⟨unhide HI1, unhide Y6⟩⟩
      case measure => have := unhide HL; simp [intOf]; omega
    · have hi : i = ll := by have := (unhide HX).1; omega
      subst hi
      have HQ := hide (unhide HX).2
      have C1 := hide (take_any ab lb cb zs (-1) wq (unhide HALL wq (unhide HQ)).1 (unhide HALL wq (unhide HQ)).2.1 (unhide HCB))
      rw [show takeI zs (-1) = (0, 0, -1, 82) by unfold takeI; rw [if_pos (by omega)]] at C1
      simp only [takeV] at C1
      clear HX
      go_wp2_with fail
      refine (unhide C1).mono ?_
      rintro e w2 ⟨rfl, B2⟩
      have H2 := hide ((unhide HQ).trans (B2.mono (unhide HQ).size))
      clear B2 C1
      go_upto_region 11 with fail
      obtain ⟨w3, hw3⟩ : ∃ w3, w3 = w2.alloc (.cells #[.int .i64 0, .int .i64 0] 42) := ⟨_, rfl⟩
      rw [← hw3]
      have A3 : Hid (w3.heap[w2.heap.size]? = some (.cells #[.int .i64 0, .int .i64 0] 42 (0, 0))) := hide (by rw [hw3]; exact heap_alloc_new w2 _)
      have Z3 : w3.heap.size = w2.heap.size + 1 := by rw [hw3]; simp
      have Y3 : Hid (Below w.heap.size w w3) := hide (by rw [hw3]; exact (unhide H2).alloc (unhide H2).size _)
      clear hw3
      have CS := hide (shown_any w3 (unhide HALL w3 (unhide Y3)).1)
      go_wp2_with fail
      refine (unhide CS).mono ?_
      rintro e w4 ⟨rfl, B4⟩
      obtain ⟨c0, c1⟩ := ins_cells ((B4.block _ (by omega)).trans (unhide A3))
      have Y4 : Hid (Below w.heap.size w w4) := hide ((unhide Y3).trans (B4.mono (unhide Y3).size))
      clear B4 CS
      go_wp2_with fail
      go_ret
      exact ⟨rfl, unhide Y4⟩
end Go.Proofs.YtbilcninhhkkpaaDoor
