/-
  The walk of the statements' over: bytes that were lent are written over by their owner; conditions: a row of one's own.
-/
import Derived.Test.YtfmbaidpeliakaaDoorHas
namespace Go.Proofs.YtfmbaidpeliakaaDoor
open Go.RowKit

set_option maxRecDepth 100000 in
set_option maxHeartbeats 400000 in
theorem over_any (g len cap : Nat) (T : TypeId) (cs : List Value) (w : World) (hb : w.heap[g]? = some (.cells cs.toArray T (0, 0))) (hl : len ≤ cs.length) (hm : len ≤ 9223372036854775000) :
    Calls Tryd.prog 18 #[.slice (some ⟨g, 0, none⟩) len cap] w fun e w' => e = .returned (.tuple #[]) ∧ Keeps w w' g := by
  have HB0 := hide hb
  have HL := hide (And.intro hl hm)
  clear hb hl hm
  go_enter Tryd.func18, Tryd.ntmps18
  go_wp2_with fail
  go_loopw [2] (fun x wr => ∃ (i : Nat) (c : List Value), i ≤ len ∧ x = .int .i64 i ∧ Hid (wr.heap[g]? = some (.cells c.toArray T (0, 0))) ∧ Hid (c.length = cs.length) ∧ Hid (Keeps w wr g)) (fun x _ => len - (intOf x).toNat)
  case atStart => exact ⟨0, cs, by omega, rfl, HB0, hide rfl, hide (Keeps.refl _ _)⟩
  case round =>
    obtain ⟨i, c, hi, rfl, HB, HC, HK⟩ := hrel
    have hll := unhide HL
    by_cases hlt : i < len
    · have hc := unhide HC
      obtain ⟨v, hv⟩ : ∃ v, c[i]? = some v := ⟨_, List.getElem?_eq_getElem (by omega)⟩
      have ct : wr.cell? ⟨g, i, none⟩ = some v := by rw [cell_of_row wr g i _ T (0, 0) (unhide HB)]; simpa using hv
      have cf : wr.frozen? ⟨g, i, none⟩ = false := frozen_of_row wr g i _ T (unhide HB)
      have i1 : (i : Int) < (len : Int) := by omega
      have i2 : (0 : Int) ≤ (i : Int) := by omega
      have HB2 : Hid ((wr.setCell ⟨g, i, none⟩ (.int .u8 90)).heap[g]? = some (.cells (c.set i (.int .u8 90)).toArray T (0, 0))) := hide (by rw [heap_setCell_same wr g i _ T _ (unhide HB)]; simp)
      have HK2 := hide ((unhide HK).trans (Keeps.of_set (g := g) (j := i) (.int .u8 90)))
      have HC2 : Hid ((c.set i (.int .u8 90)).length = cs.length) := hide (by simpa using hc)
      clear hc hv
      go_wp2_with fail
      go_roundw
      case rel => exact ⟨i + 1, _, by omega, by go_num, HB2, HC2, HK2⟩
      case measure => simp [intOf]; omega
    · have i1 : ¬ (i : Int) < (len : Int) := by omega
      go_wp2_with fail
      go_end0
      exact ⟨rfl, unhide HK⟩
end Go.Proofs.YtfmbaidpeliakaaDoor
