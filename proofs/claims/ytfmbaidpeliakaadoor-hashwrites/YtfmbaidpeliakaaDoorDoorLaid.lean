/-
  What the listed package variables of the seat give the walks; a world that has them; no conditions.
-/
import Derived.Test.YtfmbaidpeliakaaDoorH2Hash
import Derived.Test.YtfmbaidpeliakaaDoorRows
import Derived.ProofKit
import Derived.LaidMore
import Derived.OpenShut
import Derived.Stop.Joined
namespace Go.Proofs.YtfmbaidpeliakaaDoor
open Go.ChangeShapes Go.WideShapes Go.ChangeAt Go.RowKit

theorem own : ownKnob Tryd.prog.godebug = none := by kernel_rfl
theorem laidOut : laidOutB Tryd.prog = true := by kernel_rfl
theorem gStart : Tryd.prog.globalNamed "scruple/hash.start" = some 0 := by kernel_rfl
theorem gWords : Tryd.prog.globalNamed "scruple/hash.roundWords" = some 1 := by kernel_rfl
theorem tStart : (Tryd.prog.globals[0]?).map (·.type) = some 40 := by kernel_rfl
theorem tWords : (Tryd.prog.globals[1]?).map (·.type) = some 46 := by kernel_rfl
theorem cells1w : Tryd.prog.cellsOf 39 = 1 := by kernel_rfl

def seatLaid : List (String × DataW Unit) := [("scruple/hash.start", Rows.laid_scruple_hash_start), ("scruple/hash.roundWords", Rows.laid_scruple_hash_roundWords)]

/-- the numbers of an array of numbers -/
def numsOf {H : Type} : DataW H → List Int
  | .agg ps => ps.map fun d => match d with | .lit (.int _ n) => n | _ => 0
  | _ => []

def KS : List Int := numsOf (H := Unit) Rows.laid_scruple_hash_roundWords
theorem KS_len : KS.length = 64 := by kernel_rfl
theorem H0_is : numsOf (H := Unit) Rows.laid_scruple_hash_start = H0 := by kernel_rfl

theorem words_of {W : World} {T : TypeId} {n fuel : Nat} {cs : List Value} {d : DataW Unit} {p : List MemPlace} (hu : Tryd.prog.underlying T = some (.array n 39)) (hn : Tryd.prog.cellsOf T = n) (h : DataW.trod (fun _ => ()) Tryd.prog W 0 (fun _ => true) false fuel T cs = some (d, p)) :
    cs = (numsOf d).map (Value.int .u32) := by
  obtain ⟨xs, m, _, hx1, hlen, hn3, hel⟩ := DataW.trod_array hu h
  simp only [Prod.mk.injEq] at hx1
  obtain ⟨rfl, _⟩ := hx1
  rw [hn] at hlen
  refine List.ext_getElem? fun i => ?_
  by_cases hi : i < n
  · have h1 := hel i hi
    rw [List.getElem?_eq_getElem (by omega)] at h1
    obtain ⟨k, e1, e2, _⟩ := DataW.trod_int Tryd.underlying39 h1
    rw [cells1w, Nat.mul_one] at e1
    have e3 : cs[i]? = some (.int .u32 k) := by
      have := congrArg (·[0]?) e1
      simpa using this
    rw [e3]
    simp [numsOf, List.getElem?_eq_getElem (show i < xs.length by omega), e2]
  · rw [List.getElem?_eq_none (by omega), List.getElem?_eq_none (by simp [numsOf]; omega)]

theorem of_laid {W : World} (h : laidMetH Tryd.prog seatLaid W) : ∃ t0 tK, Words W 0 t0 H0 ∧ Words W 1 tK KS := by
  rw [MakeChecks.laidMetH_plain _ _ _ (by kernel_rfl)] at h
  obtain ⟨ps, ⟨g0, t0, cs0, f0, p0, q0, hg0, ht0, hv0, hd0, ⟨g1, t1, cs1, f1, p1, q1, hg1, ht1, hv1, hd1, _, hq⟩, hps⟩, _, hfz⟩ := h
  obtain rfl := Option.some.inj (gStart.symm.trans hg0)
  obtain rfl := Option.some.inj (gWords.symm.trans hg1)
  obtain rfl := Option.some.inj (tStart.symm.trans ht0)
  obtain rfl := Option.some.inj (tWords.symm.trans ht1)
  have e0 := words_of Tryd.underlying40 (by kernel_rfl) hd0
  have e1 := words_of Tryd.underlying46 (by kernel_rfl) hd1
  rw [H0_is] at e0
  have z0 : 0 < cs0.size := by rw [← Array.length_toList, e0]; decide
  have z1 : 0 < cs1.size := by rw [← Array.length_toList, e1]; show 0 < (KS.map _).length; rw [List.length_map, KS_len]; decide
  obtain ⟨⟨c, t, hc⟩, _⟩ := hfz 0 0 (by rw [hps]; exact List.mem_append_left _ (List.mem_append_left _ (MemPlace.mem_row.2 ⟨0, z0, rfl⟩)))
  obtain ⟨⟨c', t', hc'⟩, _⟩ := hfz 1 0 (by rw [hps, hq]; exact List.mem_append_right _ (List.mem_append_left _ (List.mem_append_left _ (MemPlace.mem_row.2 ⟨0, z1, rfl⟩))))
  refine ⟨t, t', ?_, ?_⟩
  · have hv : some cs0 = some c := by rw [← hv0]; unfold World.var?; rw [gStart]; simp [hc]
    cases hv
    unfold Words
    rw [hc, ← e0]
  · have hv : some cs1 = some c' := by rw [← hv1]; unfold World.var?; rw [gWords]; simp [hc']
    cases hv
    unfold Words
    have e2 : KS.map (Value.int .u32) = cs1.toList := e1.symm
    rw [hc', e2]

/-- the door's own heap meets the condition -/
theorem door_met (os : Os) (args : Array Value) : laidMetH Tryd.prog seatLaid ((World.doorLaid Tryd.prog 400 os).forCall (fun _ _ => 0) ⟨#[], args, []⟩).memory :=
  laidMetH_of_parts3 (fuel := 8) (laidMet_of_run' 8 (by kernel_rfl) (by kernel_rfl)) (by kernel_rfl) (by kernel_rfl)
end Go.Proofs.YtfmbaidpeliakaaDoor
