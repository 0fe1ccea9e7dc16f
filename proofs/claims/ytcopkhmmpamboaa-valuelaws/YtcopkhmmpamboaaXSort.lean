/-
  slices.SortFunc of entries by their keys: the shelf's law laid here; no other conditions.
-/
import Derived.Test.YtcopkhmmpamboaaXBin
import Derived.Shelf.SlSortCmp.WholeK
import Derived.Shelf.Lay
import Derived.Ground.SlsfProg
namespace Go.Proofs.Ytcopkhmmpamboaa
open Go.RowKit Go.Shelf Go.Lib Go.Sort
set_option linter.unusedVariables false
set_option linter.unusedSimpArgs false

shelf_lay_g SlLaysF0.n6 Slsf 6 at Try 23 as sortEnt

/-- an entry: its key, and its value's kind, number, text and two lists -/
abbrev Ent := ByteArray × Int × Int × ByteArray × (Option Addr × Nat × Nat) × Option Addr × Nat × Nat

def encE (x : Ent) : List Value := [.string x.1, .int .i64 x.2.1, .int .i64 x.2.2.1, .string x.2.2.2.1, .slice x.2.2.2.2.1.1 x.2.2.2.2.1.2.1 x.2.2.2.2.1.2.2, .slice x.2.2.2.2.2.1 x.2.2.2.2.2.2.1 x.2.2.2.2.2.2.2]

def cmpK (a b : ByteArray) : Int := if bl a b = true then -1 else if bl b a = true then 1 else 0

theorem cmp_K (a b : ByteArray) (w : World) : Calls Try.prog 44 #[.string a, .string b] w fun e w' => e = .returned (.int .i64 (cmpK a b)) ∧ w' = w := by
  have hn := bl_not b.toList a.toList
  cases h1 : Op.bytesLess a.toList b.toList with
  | true =>
    have HG : Hid (cmpK a b = -1) := hide (by simp [cmpK, bl, h1])
    clear hn
    go_enter Try.func44, Try.ntmps44
    go_wp2_with fail
    refine (nanC _ _).mono ?_
    rintro e w' ⟨rfl, rfl⟩
    go_wp2_with fail
    refine (nanC _ _).mono ?_
    rintro e w' ⟨rfl, rfl⟩
    go_wp2_with fail
    go_ret
    exact ⟨by rw [unhide HG]; rfl, rfl⟩
  | false =>
    have hg : (Op.bytesLess a.toList b.toList || a.toList == b.toList) = !(Op.bytesLess b.toList a.toList) := by rw [hn, Bool.not_not]
    rw [h1, Bool.false_or] at hg
    cases h2 : Op.bytesLess b.toList a.toList with
    | true =>
      have HG : Hid (cmpK a b = 1) := hide (by simp [cmpK, bl, h1, h2])
      rw [h2] at hg
      have hgt : (!(Op.bytesLess a.toList b.toList || a.toList == b.toList)) = true := by rw [h1, hg]; rfl
      clear hn
      go_enter Try.func44, Try.ntmps44
      go_wp2_with fail
      refine (nanC _ _).mono ?_
      rintro e w' ⟨rfl, rfl⟩
      go_wp2_with fail
      refine (nanC _ _).mono ?_
      rintro e w' ⟨rfl, rfl⟩
      go_wp2_with fail
      go_ret
      exact ⟨by rw [unhide HG]; rfl, rfl⟩
    | false =>
      have HG : Hid (cmpK a b = 0) := hide (by simp [cmpK, bl, h1, h2])
      rw [h2] at hg
      have hgt : (!(Op.bytesLess a.toList b.toList || a.toList == b.toList)) = false := by rw [h1, hg]; rfl
      clear hn
      go_enter Try.func44, Try.ntmps44
      go_wp2_with fail
      refine (nanC _ _).mono ?_
      rintro e w' ⟨rfl, rfl⟩
      go_wp2_with fail
      refine (nanC _ _).mono ?_
      rintro e w' ⟨rfl, rfl⟩
      go_wp2_with fail
      go_ret
      exact ⟨by rw [unhide HG]; rfl, rfl⟩

set_option maxHeartbeats 1000000 in
theorem byKey_any (x y : Ent) (W : World) : Calls Try.prog 24 #[.agg (encE x).toArray, .agg (encE y).toArray] W fun e w' => e = .returned (.int .i64 (cmpK x.1 y.1)) ∧ ∃ q os', w' = grow (W.drewN q) os' := by
  have hcon := fun W' => cmp_K x.1 y.1 W'
  generalize cmpK x.1 y.1 = r at hcon ⊢
  unfold encE
  go_enter Try.func24, Try.ntmps24
  go_wp2_with fail
  refine (hcon _).mono ?_
  rintro e w' ⟨rfl, rfl⟩
  go_wp2_with fail
  go_ret
  exact ⟨rfl, 0, _, by rw [alloc_eq_grow, alloc_eq_grow, grow_grow]; rfl⟩

theorem cmpK_lt (x y : ByteArray) : decide (cmpK x y < 0) = bl x y := by
  unfold cmpK
  cases h1 : bl x y with
  | true => simp
  | false => cases h2 : bl y x <;> simp

theorem ltE (x y : Ent) : ltOf (fun x y : Ent => cmpK x.1 y.1) x y = bl x.1 y.1 := by
  unfold ltOf
  exact cmpK_lt _ _

theorem swoE : SWO (ltOf fun x y : Ent => cmpK x.1 y.1) where
  irrefl x := by rw [ltE]; exact kl_irr _
  trans x y z h1 h2 := by rw [ltE] at *; exact kl_trans h1 h2
  ntrans x y z h1 h2 := by
    rw [ltE] at *
    rcases kl_tri x.1 y.1 with h | h | h
    · rw [h] at h1; cases h1
    · rw [h]; exact h2
    · cases h3 : bl x.1 z.1 with
      | false => rfl
      | true => rw [kl_trans h h3] at h2; cases h2

/-- the entries sorted by their keys -/
theorem sortE (blk off cap : Nat) (d : Array Ent) (w : World) (hH : HoldsK encE 6 w blk off d) (hblk : blk < w.heap.size) (hsz : d.size < 4611686018427387904) :
    Calls Try.prog 23 #[.slice (some ⟨blk, off, none⟩) d.size cap, .func (.func 24) #[] #[]] w fun e w' => e = .returned (.tuple #[]) ∧ ∃ d' n os, PermIn 0 d.size d d' ∧ SortedIn (ltOf fun x y : Ent => cmpK x.1 y.1) 0 d.size d' ∧ w' = sortWorldK encE 6 w blk off n d' os := by
  have eg : ∀ args w, (callFunc 24 args).run Try.prog w = .ok (.enter 24 args) w := enters_of Try.func24 (by kernel_rfl) rfl
  exact AnyQ.slices_SortFunc sortEnt 6 Try.isAgg29 Try.sizeOf29 encE (fun _ => rfl) (fun x v hv => by simp [encE] at hv; rcases hv with rfl | rfl | rfl | rfl | rfl | rfl <;> rfl) (fun x y => cmpK x.1 y.1) swoE 24 #[] blk off cap d w eg (fun _ _ _ _ x y => byKey_any x y _) hH hblk hsz
end Go.Proofs.Ytcopkhmmpamboaa
