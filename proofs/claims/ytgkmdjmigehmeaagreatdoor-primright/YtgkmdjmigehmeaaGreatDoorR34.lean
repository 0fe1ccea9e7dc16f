/-
  Do of whole numbers (prim); conditions: the package's variables.
-/
import Derived.Test.YtgkmdjmigehmeaaGreatDoorR33
import Derived.Shelf.Abstract
import Derived.Test.YtgkmdjmigehmeaaGreatDoorR02
namespace Go.Proofs.YtgkmdjmigehmeaaGreatDoor
set_option linter.unusedVariables false
set_option linter.unusedSimpArgs false
set_option maxRecDepth 100000
set_option maxHeartbeats 16000000
open Go.RowKit Go.Shelf
def nm (p : Int) : Vl := .mk 2 p ⟨#[]⟩ [] []
def vlz : Vl := .mk 0 0 ⟨#[]⟩ [] []
theorem plain_is (w : World) (P : Nat → Prop) (k n : Int) (bk : 0 ≤ k ∧ k ≤ 5) (bn : -9223372036854775808 ≤ n ∧ n ≤ 9223372036854775807) :
  IsP w P (.mk k n ⟨#[]⟩ [] []) (.agg #[.int .i64 k, .int .i64 n, .string ⟨#[]⟩, .slice none 0 0, .slice none 0 0]) := by
 have hs : (⟨#[]⟩ : ByteArray).size = 0 := rfl
 refine ⟨none, none, 0, 0, fun _ => [], rfl, ⟨by dsimp only; omega, bn, by dsimp only; omega, fun _ => ⟨rfl, rfl⟩, fun _ => ⟨rfl, rfl⟩, Nat.le_refl _, Nat.le_refl _, by simp, by simp, by simp, (fun a h => by cases h), (fun i h => by simp at h), (fun a h => by cases h), fun t h => by cases h⟩, ?_⟩
 simp only [IsPL]
theorem right_nm (p : Int) : rightB (nm p) = true := by
 have hs : (⟨#[]⟩ : ByteArray).size = 0 := rfl
 simp [rightB, nm, okB, okL, formB, formM, wt, wtL, dep, depL, risingFrom, keysW, hs]
theorem right_z : rightB vlz = true := by
 have hs : (⟨#[]⟩ : ByteArray).size = 0 := rfl
 simp [rightB, vlz, okB, okL, formB, formM, wt, wtL, dep, depL, risingFrom, keysW, hs]
theorem two_is {w : World} {g : Nat} {p q : Int} {T : TypeId} (hp : -9223372036854775808 ≤ p ∧ p ≤ 9223372036854775807) (hq : -9223372036854775808 ≤ q ∧ q ≤ 9223372036854775807) (h : w.heap[g]? = some (.cells #[.int .i64 2, .int .i64 (p), .string ⟨#[]⟩, .slice none 0 0, .slice none 0 0, .int .i64 2, .int .i64 (q), .string ⟨#[]⟩, .slice none 0 0, .slice none 0 0] T (0, 0))) : ArV w w.heap.size [nm p, nm q] (some ⟨g, 0, none⟩) 2 2 := by
 have hl : g < w.heap.size := (Array.getElem?_eq_some_iff.1 h).1
 have hs : (⟨#[]⟩ : ByteArray).size = 0 := rfl
 refine ⟨rfl, some ⟨g, 0, none⟩, none, 2, 0, fun i => if i = 0 then [.int .i64 2, .int .i64 (p), .string ⟨#[]⟩, .slice none 0 0, .slice none 0 0] else [.int .i64 2, .int .i64 (q), .string ⟨#[]⟩, .slice none 0 0, .slice none 0 0], rfl, ⟨by dsimp only; omega, by dsimp only; omega, by dsimp only; omega, (fun e => by cases e), fun _ => ⟨rfl, rfl⟩, Nat.le_refl _, Nat.le_refl _, by simp, by simp, by simp, ?_, ?_, (fun a h => by cases h), fun t h => by cases h⟩, ?_⟩
 ·intro a ha i hi
  cases ha
  refine ⟨hl, fun j v hv => ?_⟩
  have hi2 : i = 0 ∨ i = 1 := by simp at hi; omega
  have hj : j < 5 := by
   have := (List.getElem?_eq_some_iff.1 hv).1
   rcases hi2 with rfl | rfl <;> simpa using this
  have hadd : (((⟨g, 0, none⟩ : Addr).add (i * 5)).add j) = ⟨g, i * 5 + j, none⟩ := by
   simp only [Addr.add]
   split <;> split <;> simp_all
  rw [hadd, cell_of_row w g (i * 5 + j) _ _ (0, 0) h]
  rcases hi2 with rfl | rfl
  ·rcases (show j = 0 ∨ j = 1 ∨ j = 2 ∨ j = 3 ∨ j = 4 by omega) with rfl | rfl | rfl | rfl | rfl <;> simpa using hv
  ·rcases (show j = 0 ∨ j = 1 ∨ j = 2 ∨ j = 3 ∨ j = 4 by omega) with rfl | rfl | rfl | rfl | rfl <;> simpa using hv
 ·intro i hi
  have hi2 : i = 0 ∨ i = 1 := by simp at hi; omega
  rcases hi2 with rfl | rfl <;> rfl
 ·rw [IsPL_iff]
  intro i y hy
  rcases i with _ | _ | i
  ·simp at hy
   subst hy
   exact plain_is w _ 2 p (by omega) hp
  ·simp at hy
   subst hy
   exact plain_is w _ 2 q (by omega) hq
  ·simp at hy
theorem kd_two (p q : Int) : kdAt [nm p, nm q] 0 = 2 ∧ kdAt [nm p, nm q] 1 = 2 ∧ ∀ i, 0 ≤ kdAt [nm p, nm q] i ∧ kdAt [nm p, nm q] i ≤ 5 := by
 refine ⟨rfl, rfl, fun i => ?_⟩
 have e0 : kdAt [nm p, nm q] 0 = 2 := rfl
 have e1 : kdAt [nm p, nm q] 1 = 2 := rfl
 rcases i with _ | _ | i
 ·rw [e0]; exact ⟨by decide, by decide⟩
 ·rw [e1]; exact ⟨by decide, by decide⟩
 ·have : kdAt [nm p, nm q] (i + 1 + 1) = 0 := by simp [kdAt]
  rw [this]
  exact ⟨by decide, by decide⟩
theorem b28 : bitK 28 2 = true := by kernel_rfl
theorem b4 : bitK 4 2 = true := by kernel_rfl
theorem wr64 (x : Int) : -9223372036854775808 ≤ wrap64 x ∧ wrap64 x ≤ 9223372036854775807 := by
 simp only [wrap64]
 omega
theorem may_add (p q : Int) : mayB 10 vlz [nm p, nm q] = true := by
 have h : takesA 10 2 vlz = 2 := by
  unfold takesA
  rw [if_pos (by decide), if_neg (by decide), if_neg (by decide)]
  kernel_rfl
 unfold mayB
 simp [h, right_z, right_nm]
theorem fit_add (p q : Int) : fitsB 28 0 0 true [nm p, nm q] = true := by
 unfold fitsB fit1
 rw [(kd_two p q).1, (kd_two p q).2.1]
 simp [b28, b4]
theorem do_add (p q : Int) (g cl : Nat) (T : TypeId) (w : World) (ht : Tab w) (hr : w.heap[g]? = some (.cells #[.int .i64 2, .int .i64 (p), .string ⟨#[]⟩, .slice none 0 0, .slice none 0 0, .int .i64 2, .int .i64 (q), .string ⟨#[]⟩, .slice none 0 0, .slice none 0 0] T (0, 0))) (hb : (-9223372036854775808 ≤ p ∧ p ≤ 9223372036854775807) ∧ -9223372036854775808 ≤ q ∧ q ≤ 9223372036854775807) :
  Calls Tryz.prog 12 #[.int .i64 10, .agg #[.int .i64 0, .int .i64 0, .string ⟨#[]⟩, .slice none 0 0, .slice none 0 0], .slice (some ⟨g, 0, none⟩) 2 2] w fun e w' => e = .returned (.tuple #[.agg #[.int .i64 2, .int .i64 (wrap64 (p + q)), .string ⟨#[]⟩, .slice none 0 0, .slice none 0 0], .int .i64 0]) ∧ Below w.heap.size w w' := by
 have hl : g < w.heap.size := (Array.getElem?_eq_some_iff.1 hr).1
 refine (do_go 10 28 0 0 true 48 op_add vlz 0 0 ⟨#[]⟩ none 0 0 none 0 0 [nm p, nm q] (some ⟨g, 0, none⟩) 2 2 w.heap.size w ht (plain_is w _ 0 0 (by omega) (by omega)) (two_is hb.1 hb.2 hr) (Nat.le_refl _) (may_add p q) ((kd_two p q).2.2) (by omega) (by omega) (by omega) (by intro; omega) (fit_add p q) (enters_of Tryz.func48 (by kernel_rfl) rfl)
  (fun y0 y1 y2 y3 y4 y5 y6 y7 y8 t _ _ => (.tuple #[.agg #[.int .i64 y0, .int .i64 y1, .string y2, .slice y3 y4 y5, .slice y6 y7 y8], .int .i64 t] : Value) = .tuple #[.agg #[.int .i64 2, .int .i64 (wrap64 (p + q)), .string ⟨#[]⟩, .slice none 0 0, .slice none 0 0], .int .i64 0]) (fun u hu => ?_)).mono ?_
 ·have hcell : ∀ j v, ([.int .i64 2, .int .i64 (p), .string ⟨#[]⟩, .slice none 0 0, .slice none 0 0, .int .i64 2, .int .i64 (q), .string ⟨#[]⟩, .slice none 0 0, .slice none 0 0] : List Value)[j]? = some v → u.cell? ⟨g, 0 + j, none⟩ = some v := fun j v hv => by
   rw [Nat.zero_add, cell_of_row u g j _ _ (0, 0) ((hu.block g hl).trans hr)]
   simpa using hv
  refine (add_num 0 0 ⟨#[]⟩ none 0 0 none 0 0 ⟨g, 0, none⟩ 2 2 p ⟨#[]⟩ none 0 0 none 0 0 q ⟨#[]⟩ none 0 0 none 0 0 u (by omega) (Nat.lt_of_lt_of_le hl hu.size) (hcell 0 _ rfl) (hcell 1 _ rfl) (hcell 2 _ rfl) (hcell 3 _ rfl) (hcell 4 _ rfl) (hcell 5 _ rfl) (hcell 6 _ rfl) (hcell 7 _ rfl) (hcell 8 _ rfl) (hcell 9 _ rfl)).mono ?_
  rintro e w' ⟨rfl, hb⟩
  exact ⟨_, _, _, _, _, _, _, _, _, _, rfl, rfl, hb⟩
 ·rintro e w' ⟨y0, y1, y2, y3, y4, y5, y6, y7, y8, t, rfl, ⟨u, u', _, hQ, _⟩, hb⟩
  exact ⟨by rw [hQ], hb⟩
open Go.RowKit
theorem ret_c {P : Program} {fn : Func} {p : Tmp} {T : TypeId} (h : fn.results = #[.cell p T]) (tmps : Array Value) (w : World) (g : Nat) (c : Array Value) (d : TypeDesc) (t : TypeId)
  (hp : tmps.getD p undef = .pointer (some ⟨g, 0, none⟩)) (hb : w.heap[g]? = some (.cells c t (0, 0))) (hu : P.underlying T = some d) (hd : (match d with | .struct _ | .array _ _ => true | _ => false) = true) (hi : (P.info? T).map (·.size) = some c.size) :
  (results fn tmps).run P w = .ok (.agg c) w := by
 have hl := run_loadVar_row (P := P) w g t T c (0, 0) _ hb hu hd hi
 have hp' : tmps[p]?.getD undef = .pointer (some ⟨g, 0, none⟩) := by simpa using hp
 simp [results, h, hp', asAddr, Result.andThen, hl]
theorem lawnum_any (n : Int) (w : World) : Calls Tryz.prog 25 #[.int .i64 n] w fun e w' => e = .returned (.agg #[.int .i64 2, .int .i64 n, .string ⟨#[]⟩, .slice none 0 0, .slice none 0 0]) ∧ Below w.heap.size w w' := by
 go_enter Tryz.func25, Tryz.ntmps25
 go_wp2_with fail
 (try simp only [Exit.inBlock, Exit.then])
 refine bodyPost_ret (ret_c rfl _ _ w.heap.size #[.int .i64 2, .int .i64 n, .string ⟨#[]⟩, .slice none 0 0, .slice none 0 0] _ _ rfl (heap_alloc_new w _) Tryz.underlying25 rfl size_vl) rfl ?_
 exact ⟨rfl, (Below.refl _ _).alloc (Nat.le_refl _) _⟩
theorem shown_any (w : World) (ht : Tab w) : Calls Tryz.prog 9 #[] w fun e w' => e = .returned (.bool true) ∧ Below w.heap.size w w' := by
 have CN := hide (lawnum_any 2 w)
 have HT : Hid (∀ u, Below w.heap.size w u → Tab u) := hide (fun u hu => ht.later hu ht.big hu.size)
 clear ht
 go_enter Tryz.func9, Tryz.ntmps9
 go_wp2_with fail
 refine (uh CN).mono ?_
 rintro e u1 ⟨rfl, d1⟩
 have D1 := hide d1
 have C2 := hide (lawnum_any 3 u1)
 clear d1 CN
 go_wp2_with fail
 refine (uh C2).mono ?_
 rintro e u2 ⟨rfl, d2⟩
 have D2 := hide ((uh D1).trans (d2.mono (uh D1).size))
 obtain ⟨g, hg⟩ : ∃ g, u2.heap.size = g := ⟨_, rfl⟩
 obtain ⟨u3, hu3⟩ : ∃ u3, u2.alloc (.cells #[.int .i64 2, .int .i64 2, .string ⟨#[]⟩, .slice none 0 0, .slice none 0 0, .int .i64 2, .int .i64 3, .string ⟨#[]⟩, .slice none 0 0, .slice none 0 0] 25) = u3 := ⟨_, rfl⟩
 have n3 : u3.heap[g]? = some (.cells #[.int .i64 2, .int .i64 2, .string ⟨#[]⟩, .slice none 0 0, .slice none 0 0, .int .i64 2, .int .i64 3, .string ⟨#[]⟩, .slice none 0 0, .slice none 0 0] 25 (0, 0)) := by rw [← hu3, ← hg]; exact heap_alloc_new u2 _
 have d3 : Below u2.heap.size u2 u3 := by rw [← hu3]; exact (Below.refl _ _).alloc (Nat.le_refl _) _
 have D3 : Hid (Below w.heap.size w u3) := hide ((uh D2).trans (d3.mono (uh D2).size))
 have C3 := hide (do_add 2 3 g 0 25 u3 (uh HT u3 (uh D3)) n3 ⟨by omega, by omega⟩)
 rw [show wrap64 (2 + 3) = 5 by simp only [wrap64]; omega] at C3
 clear d2 C2 n3 d3 D1 D2
 go_wp2_with fail
 refine (uh C3).mono ?_
 rintro e u4 ⟨rfl, d4⟩
 have D4 := hide ((uh D3).trans (d4.mono (uh D3).size))
 clear d4 C3
 go_wp2_with fail
 go_ret
 exact ⟨by simp, by first | exact (uh D4).alloc (uh D4).size _ | (rw [← hg]; exact (uh D4).alloc (uh D4).size _)⟩
end Go.Proofs.YtgkmdjmigehmeaaGreatDoor
