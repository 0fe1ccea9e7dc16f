/-
  What was charged with true is what was used; at the first false all is, for any limit and amounts (GasAddsSaid); no conditions.
-/
import Derived.Test.YtmigfhigekfeeaaRows
import Derived.Test.YtmigfhigekfeeaaGMt
import Derived.ProofKit
import Derived.ShutString
import Derived.ChangeOld
import Derived.Deep.Slices
import Derived.ChangeSame
import Derived.SizedLaws
namespace Go.Proofs.Ytmigfhigekfeeaa.gasAdds
open Go.ChangeShapes Go.WideShapes Go.ChangeAt Go.RowKit
set_option linter.unusedVariables false

theorem own : ownKnob Try.prog.godebug = none := by kernel_rfl
theorem laidOut : laidOutB Try.prog = true := by kernel_rfl
theorem cells_i : Try.prog.cellsOf 2 = 1 := by kernel_rfl

/-- a slice of whole numbers -/
def RowI (w : World) (ao : Option Addr) (len : Nat) (zs : List Int) : Prop :=
  zs.length = len ∧ ∀ j z, zs[j]? = some z → ∃ b o, ao = some ⟨b, o, none⟩ ∧ w.cell? ⟨b, o + j, none⟩ = some (.int .i64 z)

theorem RowI.later {w w' : World} {ao : Option Addr} {len : Nat} {zs : List Int} (h : RowI w ao len zs) (hb : Below w.heap.size w w') : RowI w' ao len zs :=
  ⟨h.1, fun j z hz => by
    obtain ⟨b, o, e, c⟩ := h.2 j z hz
    exact ⟨b, o, e, (hb.cell (p := ⟨b, o + j, none⟩) (World.block_lt_of_cell? _ _ c)).trans c⟩⟩

theorem open_rowI {H : Type} {enc : TypeId × Value → H} {W : World} {a0 : Option Addr} {len cap : Nat} {d0 : DataW H} {p0 : List MemPlace} (h0 : DataW.Trod enc Try.prog W 0 (fun _ => true) true 39 (.slice a0 len cap) d0 p0) :
    ∃ zs, RowI W a0 len zs ∧ len ≤ 9223372036854775807 := by
  obtain ⟨fuel, hf⟩ := h0
  rcases open_ints Try.underlying39 Try.underlying2 cells_i hf with ⟨hcs, _⟩ | ⟨x, l, c, zs, hcs, _, hl, hm, hz, hx, hcell, hwz⟩
  · simp [Value.cells] at hcs
    obtain ⟨rfl, rfl, rfl⟩ := hcs
    exact ⟨[], ⟨rfl, fun j z h => by simp at h⟩, by omega⟩
  · simp [Value.cells] at hcs
    obtain ⟨rfl, rfl, rfl⟩ := hcs
    simp only [if_true] at hz
    refine ⟨zs.take len, ⟨by simp; omega, fun j z hj => ?_⟩, by unfold maxLen at hm; omega⟩
    have hjl : j < len := by
      have := (List.getElem?_eq_some_iff.1 hj).1
      simp at this
      omega
    obtain ⟨b, off, rfl, hc⟩ := ints_at hcell (by omega)
    have h1 := hc j (by omega)
    rw [List.getElem?_take_of_lt hjl, List.getElem?_eq_getElem (by omega)] at hj
    have e : zs.getD j 0 = z := by rw [← Option.some.inj hj]; simp [List.getD, (by omega : j < zs.length)]
    rw [e] at h1
    exact ⟨b, off, rfl, h1⟩

set_option maxRecDepth 100000 in
set_option maxHeartbeats 800000 in
theorem walk_no (limit : Int) (al : Option Addr) (ll cl : Nat) (w : World) (h : alwB limit = false) : Calls Try.prog 4 #[.int .i64 limit, .slice al ll cl] w fun e w' => e = .returned (.bool true) ∧ Below w.heap.size w w' := by
  have HA : Hid (alwB 1 = true) := hide rfl
  have HL := hide h
  clear h
  go_enter Try.func4, Try.ntmps4
  go_wp2_with fail
  refine (new_no _ _ (unhide HL)).mono ?_
  rintro e w1 ⟨rfl, rfl⟩
  go_wp2_with fail
  refine (new_ok _ _ (unhide HA)).mono ?_
  rintro e w3 ⟨rfl, hw3⟩
  have H : Hid (Below w1.heap.size w1 w3) := hide (by rw [hw3]; exact (Below.refl _ _).alloc (Nat.le_refl _) _)
  clear hw3
  go_wp2_with fail
  go_ret
  exact ⟨rfl, unhide H⟩

set_option maxRecDepth 100000 in
set_option maxHeartbeats 1600000 in
theorem walk_ok (limit : Int) (al : Option Addr) (ll cl : Nat) (zs : List Int) (w : World) (h : alwB limit = true) (hl : RowI w al ll zs) (hm : ll ≤ 9223372036854775807) : Calls Try.prog 4 #[.int .i64 limit, .slice al ll cl] w fun e w' => e = .returned (.bool true) ∧ Below w.heap.size w w' := by
  have HL := hide h
  have HR := hide hl
  have HM := hide hm
  obtain ⟨l0, l1⟩ := of_alw h
  clear h hl hm
  go_enter Try.func4, Try.ntmps4
  go_wp2_with fail
  refine (new_ok _ _ (unhide HL)).mono ?_
  rintro e w1 ⟨rfl, hw1⟩
  have B1 : Below w.heap.size w w1 := by rw [hw1]; exact (Below.refl _ _).alloc (Nat.le_refl _) _
  have M1 : Mt w1 w.heap.size limit limit false none := by rw [hw1]; exact heap_alloc_new _ _
  obtain ⟨g, hg⟩ : ∃ g, w.heap.size = g := ⟨_, rfl⟩
  have HG : Hid (w.heap.size ≤ g) := hide (by omega)
  rw [hg] at M1 ⊢
  have HX := hide (And.intro M1 B1)
  clear hw1 M1 B1 hg
  go_wp2_with fail
  go_loopw [9, 10] (fun u x wr => ∃ (i : Nat) (us : Int), x = .int .i64 (i : Int) ∧ u = .int .i64 us ∧ 0 ≤ us ∧ us ≤ limit ∧ Hid (i ≤ ll ∧ Mt wr g limit (limit - us) false none ∧ Below w.heap.size w wr)) (fun _ x _ => ll - (intOf x).toNat)
  case atStart => exact ⟨0, 0, rfl, rfl, by omega, by omega, hide ⟨by omega, by simpa using (unhide HX).1, (unhide HX).2⟩⟩
  case round =>
    clear HX
    obtain ⟨i, us, rfl, rfl, u0, u1, HX⟩ := hrel
    obtain ⟨wq, hwq⟩ : ∃ wq, wq = wr := ⟨_, rfl⟩
    subst hwq
    have hmi := unhide HM
    by_cases hlt : i < ll
    · have i1 : (i : Int) < (ll : Int) := by omega
      obtain ⟨z, hz⟩ : ∃ z, zs[i]? = some z := ⟨_, List.getElem?_eq_getElem (by rw [(unhide HR).1]; exact hlt)⟩
      obtain ⟨b, o, rfl, c0⟩ := (unhide HR).2 i z hz
      have ct := ((unhide HX).2.2.cell (p := ⟨b, o + i, none⟩) (World.block_lt_of_cell? _ _ c0)).trans c0
      have hbq : b < wq.heap.size := World.block_lt_of_cell? _ _ ct
      have HLT := hide hlt
      have HC := hide c0
      have HI1 : Hid (i + 1 ≤ ll) := hide (by omega)
      clear hz hlt c0
      by_cases hz0 : z < 0
      · go_wp2_with fail
        go_roundw
        case rel => exact ⟨i + 1, us, by go_num, rfl, u0, u1, hide ⟨unhide HI1, (unhide HX).2⟩⟩
        case measure => have := unhide HLT; simp [intOf]; omega
      · have z0 : 0 ≤ z := by omega
        by_cases hz1 : z ≤ limit - us
        · have CC := hide (charge_ok z z0 hz1 (by omega) (unhide HX).2.1)
          go_wp2_with fail
          refine (unhide CC).mono ?_
          rintro e w2 ⟨rfl, hw2⟩
          have M2 : Mt w2 g limit (limit - us - z) false none := by rw [hw2]; exact (unhide HX).2.1.setLeft _
          have B2 : Below w.heap.size w w2 := by rw [hw2]; exact (unhide HX).2.2.setCell (p := ⟨g, 1, none⟩) (unhide HG) _
          clear ct
          have ct := (B2.cell (p := ⟨b, o + i, none⟩) (World.block_lt_of_cell? _ _ (unhide HC))).trans (unhide HC)
          have hb2 : b < w2.heap.size := World.block_lt_of_cell? _ _ ct
          have H2 := hide (And.intro M2 B2)
          have CL := hide (left_any M2)
          have CU := hide (used_any M2 (by omega) (by omega) l0 l1)
          rw [show limit - (limit - us - z) = us + z by omega] at CU
          clear hw2 M2 B2 CC HX
          go_wp2_with fail
          refine (unhide CL).mono ?_
          rintro e w3 ⟨rfl, rfl⟩
          go_wp2_with fail
          refine (unhide CU).mono ?_
          rintro e w4 ⟨rfl, q, hw4⟩
          have M4 : Mt w4 g limit (limit - (us + z)) false none := by rw [hw4, show limit - (us + z) = limit - us - z by omega]; exact (unhide H2).1
          have B4 : Below w.heap.size w w4 := by rw [hw4]; exact below_drewN (unhide H2).2 q
          have H4 := hide (And.intro M4 B4)
          have hs : limit - us - z + (us + z) = limit := by omega
          clear hw4 M4 B4 H2 CL CU
          go_wp2_with fail
          go_roundw
          case rel => exact ⟨i + 1, us + z, by go_num, rfl, by omega, by omega, hide ⟨unhide HI1, unhide H4⟩⟩
          case measure => have := unhide HLT; simp [intOf]; omega
        · have hz2 : limit - us < z := by omega
          have CC := hide (charge_over z z0 hz2 (unhide HX).2.1)
          go_wp2_with fail
          refine (unhide CC).mono ?_
          rintro e w2 ⟨rfl, hw2⟩
          have M2 : Mt w2 g limit 0 true none := by rw [hw2]; exact ((unhide HX).2.1.setLeft _).setSpent _
          have B2 : Below w.heap.size w w2 := by rw [hw2]; exact ((unhide HX).2.2.setCell (p := ⟨g, 1, none⟩) (unhide HG) _).setCell (p := ⟨g, 2, none⟩) (unhide HG) _
          clear ct
          have ct := (B2.cell (p := ⟨b, o + i, none⟩) (World.block_lt_of_cell? _ _ (unhide HC))).trans (unhide HC)
          have hb2 : b < w2.heap.size := World.block_lt_of_cell? _ _ ct
          have HCT := hide ct
          have H2 := hide (And.intro M2 B2)
          have CS := hide (spent_any M2)
          have C0 := hide (charge_spent 0 (by omega) M2)
          have CL := hide (left_any M2)
          have CU := hide (used_any M2 (by omega) (by omega) l0 l1)
          rw [show limit - 0 = limit by omega] at CU
          clear hw2 M2 B2 CC HX
          go_wp2_with fail
          refine (unhide CS).mono ?_
          rintro e w3 ⟨rfl, rfl⟩
          go_wp2_with fail
          refine (unhide C0).mono ?_
          rintro e w4 ⟨rfl, rfl⟩
          go_wp2_with fail
          refine (unhide CL).mono ?_
          rintro e w5 ⟨rfl, rfl⟩
          go_wp2_with fail
          refine (unhide CU).mono ?_
          rintro e w6 ⟨rfl, q, hw6⟩
          have B6 : Below w.heap.size w w6 := by rw [hw6]; exact below_drewN (unhide H2).2 q
          clear ct
          have ct : w6.cell? ⟨b, o + i, none⟩ = some (.int .i64 z) := (B6.cell (p := ⟨b, o + i, none⟩) (World.block_lt_of_cell? _ _ (unhide HC))).trans (unhide HC)
          have hb6 : b < w6.heap.size := World.block_lt_of_cell? _ _ ct
          have H6 := hide B6
          clear hw6 B6 H2 CL CU
          go_wp2_with fail
          go_ret
          exact ⟨rfl, unhide H6⟩
    · have hi : ¬ (i : Int) < (ll : Int) := by omega
      have CU := hide (used_any (unhide HX).2.1 (by omega) (by omega) l0 l1)
      rw [show limit - (limit - us) = us by omega] at CU
      go_wp2_with fail
      refine (unhide CU).mono ?_
      rintro e w4 ⟨rfl, q, hw4⟩
      have B4 : Hid (Below w.heap.size w w4) := hide (by rw [hw4]; exact below_drewN (unhide HX).2.2 q)
      clear hw4 CU HX
      go_wp2_with fail
      go_ret
      exact ⟨rfl, unhide B4⟩

theorem walk (limit : Int) (al : Option Addr) (ll cl : Nat) (zs : List Int) (w : World) (hl : RowI w al ll zs) (hm : ll ≤ 9223372036854775807) : Calls Try.prog 4 #[.int .i64 limit, .slice al ll cl] w fun e w' => e = .returned (.bool true) ∧ Below w.heap.size w w' := by
  cases h : alwB limit
  · exact walk_no _ _ _ _ _ h
  · exact walk_ok _ _ _ _ zs _ h hl hm

set_option maxRecDepth 100000 in
theorem lifted (os : Os) (started : os.Started) (H : Type) (enc : TypeId × Value → H) :
    ReturnsInHanded {} Try.checked os 4 .any (Rows.gasAddsSpec.pre6 enc Try.prog Try.f4 Rows.gasAddsRow.domain false) (Rows.gasAddsSpec.post enc Try.prog Try.f4 false true false false) := by
  refine returnsInHanded_of_change_sized (C := Try.checked) own started (by kernel_rfl) Try.func4
    (ChangeSpec.witness6 (enc := enc) (C := Try.checked) false ⟨#[], #[.int .i64 0, .slice none 0 0], []⟩ 8 (by kernel_rfl) (by kernel_rfl) (by kernel_rfl) (by kernel_rfl)) ?_
  intro W base args ds gs before hval0 hW _ _ _
  have hval : ∀ (j : Nat) t v, Try.f4.params[j]? = some t → args[j]? = some v → Value.okWide Try.prog W .any base t v := hval0
  have hW' := hW
  obtain ⟨p, q, hA0, hV, rfl, hfz, hnd⟩ := hW
  have hA : DataW.TrodAll enc Try.prog W 0 (fun _ => true) true Try.f4.params.toList args.toList ds p := hA0
  rw [Try.params4] at hA hval
  obtain ⟨v0, vs0, d0, ds0, p0, q0, hargs, rfl, rfl, h0, r0⟩ := trodAll_cons hA
  obtain ⟨v1, vs1, d1, ds1, p1, q1, hargs1, rfl, rfl, h1, r1⟩ := trodAll_cons r0
  obtain ⟨rfl, rfl, rfl⟩ := trodAll_nil r1
  subst hargs1
  obtain rfl : args = #[v0, v1] := by cases args; simp_all
  obtain ⟨rfl, rfl⟩ := trodVars_none hV
  obtain ⟨a0, rfl, rfl, rfl, w0⟩ := open_int Try.underlying2 (hval 0 2 v0 rfl rfl) h0
  obtain ⟨a1, len1, cap1, rfl⟩ := okWide_slice Try.underlying39 (hval 1 39 v1 rfl rfl)
  have lt1 : ∀ x ∈ p1, x.block < W.heap.size := by obtain ⟨m, hm⟩ := h1; exact DataW.trod_lt m _ _ _ hm
  obtain ⟨zs, hk, hl1⟩ := open_rowI h1
  clear hA0 hval0
  refine (walk a0 a1 len1 cap1 zs W hk hl1).mono fun e W' ⟨he, bel⟩ => ?_
  subst he
  exact ⟨_, rfl, _, _, _, [], _, [], hW', trodAll_mk1 (shut_bool Try.underlying4 _), (trodAll_cons_mk (shut_int Try.underlying2 w0) (trodAll_cons_mk (Below.trod laidOut (by kernel_rfl) (of_decide_eq_true (by kernel_rfl)) h1 bel lt1) trodAll_mk0)), rfl, bel.frame _, fun h => by cases h⟩

theorem over : Rows.gasAddsRow.holds Try.pinned (OpenSpec.ofChange Rows.gasAddsSpec) :=
  OpenClaim.holds_of_wide 4 Try.f4 rfl rfl rfl rfl rfl rfl rfl ⟨rfl, rfl, rfl, rfl, rfl⟩ rfl rfl rfl rfl rfl (by kernel_rfl) Try.func4 (by kernel_rfl)
    (of_decide_eq_true (by kernel_rfl)) (by unfold Func.isWrapper; first | (rw [if_pos (by decide +kernel)]; kernel_rfl) | (rw [if_neg (by decide +kernel)]; exact ⟨rfl, rfl⟩))
    (fun os started H enc _ => lifted os started H enc)
end Go.Proofs.Ytmigfhigekfeeaa.gasAdds

namespace Go.Proofs.Ytmigfhigekfeeaa
theorem gasAdds_holds : Rows.GasAddsSaid := gasAdds.over
#print axioms gasAdds_holds
end Go.Proofs.Ytmigfhigekfeeaa
