/-
  slices.SortFunc of entries by their keys: the shelf's law laid here; no other conditions.
-/
import Derived.Test.YtcopkhmmpamboaaL21
import Derived.Shelf.SlSortCmp.WholeK
import Derived.Shelf.SlGeneric
import Derived.Shelf.SlLaysF0
import Derived.Ground.SlsfProg
namespace Go.Proofs.Ytcopkhmmpamboaa
open Go.RowKit Go.Shelf Go.Lib Go.Sort
set_option linter.unusedVariables false
set_option linter.unusedSimpArgs false

def sortEnt_ren : Go.Shelf.Ren := ⟨fun | 6 => 23 | 15 => 43 | 14 => 42 | 28 => 66 | 29 => 67 | 20 => 58 | 21 => 59 | 22 => 60 | 23 => 61 | 24 => 62 | 25 => 63 | 26 => 64 | 27 => 65 | 46 => 72 | 47 => 73 | 48 => 74 | 49 => 75 | 50 => 76 | 57 => 79 | n => n, fun | 22 => 22 | 24 => 29 | 25 => 49 | 3 => 3 | 39 => 68 | 0 => 0 | 53 => 88 | 55 => 90 | 4 => 4 | 46 => 82 | 45 => 81 | 50 => 53 | 5 => 5 | 9 => 9 | 66 => 91 | 70 => 95 | 76 => 101 | 77 => 63 | n => n, fun | n => n⟩
theorem sortEnt : Go.Proofs.SlLaysF0.n6 Try.prog sortEnt_ren := {
  mixed := by kernel_rfl
  f6 := ⟨Try.f23.name, by decide, Try.func23.trans (congrArg some (by kernel_rfl))⟩
  f14 := ⟨Try.f42.name, by decide, Try.func42.trans (congrArg some (by kernel_rfl))⟩
  f15 := Try.func43.trans (congrArg some (by kernel_rfl))
  f20 := ⟨Try.f58.name, by decide, Try.func58.trans (congrArg some (by kernel_rfl))⟩
  f21 := ⟨Try.f59.name, by decide, Try.func59.trans (congrArg some (by kernel_rfl))⟩
  f22 := ⟨Try.f60.name, by decide, Try.func60.trans (congrArg some (by kernel_rfl))⟩
  f23 := ⟨Try.f61.name, by decide, Try.func61.trans (congrArg some (by kernel_rfl))⟩
  f24 := ⟨Try.f62.name, by decide, Try.func62.trans (congrArg some (by kernel_rfl))⟩
  f25 := ⟨Try.f63.name, by decide, Try.func63.trans (congrArg some (by kernel_rfl))⟩
  f26 := ⟨Try.f64.name, by decide, Try.func64.trans (congrArg some (by kernel_rfl))⟩
  f27 := ⟨Try.f65.name, by decide, Try.func65.trans (congrArg some (by kernel_rfl))⟩
  f28 := Try.func66.trans (congrArg some (by kernel_rfl))
  f29 := Try.func67.trans (congrArg some (by kernel_rfl))
  f46 := ⟨Try.f72.name, by decide, Try.func72.trans (congrArg some (by kernel_rfl))⟩
  f47 := Try.func73.trans (congrArg some (by kernel_rfl))
  f48 := Try.func74.trans (congrArg some (by kernel_rfl))
  f49 := ⟨Try.f75.name, by decide, Try.func75.trans (congrArg some (by kernel_rfl))⟩
  f50 := ⟨Try.f76.name, by decide, Try.func76.trans (congrArg some (by kernel_rfl))⟩
  f57 := ⟨Try.f79.name, by decide, Try.func79.trans (congrArg some (by kernel_rfl))⟩
  t0 := Try.underlying0
  a0 := Try.isAgg0
  z0 := Try.sizeOf0
  v0 := Try.zeroValue0
  t3 := Try.underlying3
  a3 := Try.isAgg3
  z3 := Try.sizeOf3
  v3 := Try.zeroValue3
  t4 := Try.underlying4
  a4 := Try.isAgg4
  z4 := Try.sizeOf4
  v4 := Try.zeroValue4
  t5 := Try.underlying5
  a5 := Try.isAgg5
  z5 := Try.sizeOf5
  v5 := Try.zeroValue5
  t9 := Try.underlying9
  a9 := Try.isAgg9
  z9 := Try.sizeOf9
  v9 := Try.zeroValue9
  t22 := Try.underlying22
  a22 := Try.isAgg22
  z22 := Try.sizeOf22
  v22 := Try.zeroValue22
  t25 := Try.underlying49
  a25 := Try.isAgg49
  z25 := Try.sizeOf49
  v25 := Try.zeroValue49
  t39 := Try.underlying68
  a39 := Try.isAgg68
  z39 := Try.sizeOf68
  v39 := Try.zeroValue68
  t45 := Try.underlying81
  a45 := Try.isAgg81
  z45 := Try.sizeOf81
  v45 := Try.zeroValue81
  t46 := Try.underlying82
  a46 := Try.isAgg82
  z46 := Try.sizeOf82
  v46 := Try.zeroValue82
  t50 := Try.underlying53
  a50 := Try.isAgg53
  z50 := Try.sizeOf53
  v50 := Try.zeroValue53
  t53 := Try.underlying88
  a53 := Try.isAgg88
  z53 := Try.sizeOf88
  v53 := Try.zeroValue88
  t55 := Try.underlying90
  a55 := Try.isAgg90
  z55 := Try.sizeOf90
  v55 := Try.zeroValue90
  t66 := Try.underlying91
  a66 := Try.isAgg91
  z66 := Try.sizeOf91
  v66 := Try.zeroValue91
  t70 := Try.underlying95
  a70 := Try.isAgg95
  z70 := Try.sizeOf95
  v70 := Try.zeroValue95
  t76 := Try.underlying101
  a76 := Try.isAgg101
  z76 := Try.sizeOf101
  v76 := Try.zeroValue101
  t77 := Try.underlying63
  a77 := Try.isAgg63
  z77 := Try.sizeOf63
  v77 := Try.zeroValue63 }

/-- an entry: its key, and its value's kind, number, text and two lists -/
abbrev Ent := ByteArray × Int × Int × ByteArray × (Option Addr × Nat × Nat) × Option Addr × Nat × Nat

def encE (x : Ent) : List Value := [.string x.1, .int .i64 x.2.1, .int .i64 x.2.2.1, .string x.2.2.2.1, .slice x.2.2.2.2.1.1 x.2.2.2.2.1.2.1 x.2.2.2.2.1.2.2, .slice x.2.2.2.2.2.1 x.2.2.2.2.2.2.1 x.2.2.2.2.2.2.2]

def cmpK (a b : ByteArray) : Int := if bl a b = true then -1 else if bl b a = true then 1 else 0

theorem cmp_K (a b : ByteArray) (w : World) : Calls Try.prog 44 #[.string a, .string b] w fun e w' => e = .returned (.int .i64 (cmpK a b)) ∧ w' = w := by
  have hn := bl_not b.toList a.toList
  cases h1 : Op.bytesLess a.toList b.toList with
  | true =>
    have HG : Hid (cmpK a b = -1) := hide (by simp [cmpK, bl, h1])
    clear hn
    go_enter Try.func44, Try.ntmps44
    go_wp2_with fail
    refine (nanC _ _).mono ?_
    rintro e w' ⟨rfl, rfl⟩
    go_wp2_with fail
    refine (nanC _ _).mono ?_
    rintro e w' ⟨rfl, rfl⟩
    go_wp2_with fail
    go_ret
    exact ⟨by rw [unhide HG]; rfl, rfl⟩
  | false =>
    have hg : (Op.bytesLess a.toList b.toList || a.toList == b.toList) = !(Op.bytesLess b.toList a.toList) := by rw [hn, Bool.not_not]
    rw [h1, Bool.false_or] at hg
    cases h2 : Op.bytesLess b.toList a.toList with
    | true =>
      have HG : Hid (cmpK a b = 1) := hide (by simp [cmpK, bl, h1, h2])
      rw [h2] at hg
      have hgt : (!(Op.bytesLess a.toList b.toList || a.toList == b.toList)) = true := by rw [h1, hg]; rfl
      clear hn
      go_enter Try.func44, Try.ntmps44
      go_wp2_with fail
      refine (nanC _ _).mono ?_
      rintro e w' ⟨rfl, rfl⟩
      go_wp2_with fail
      refine (nanC _ _).mono ?_
      rintro e w' ⟨rfl, rfl⟩
      go_wp2_with fail
      go_ret
      exact ⟨by rw [unhide HG]; rfl, rfl⟩
    | false =>
      have HG : Hid (cmpK a b = 0) := hide (by simp [cmpK, bl, h1, h2])
      rw [h2] at hg
      have hgt : (!(Op.bytesLess a.toList b.toList || a.toList == b.toList)) = false := by rw [h1, hg]; rfl
      clear hn
      go_enter Try.func44, Try.ntmps44
      go_wp2_with fail
      refine (nanC _ _).mono ?_
      rintro e w' ⟨rfl, rfl⟩
      go_wp2_with fail
      refine (nanC _ _).mono ?_
      rintro e w' ⟨rfl, rfl⟩
      go_wp2_with fail
      go_ret
      exact ⟨by rw [unhide HG]; rfl, rfl⟩

set_option maxHeartbeats 1000000 in
theorem byKey_any (x y : Ent) (W : World) : Calls Try.prog 24 #[.agg (encE x).toArray, .agg (encE y).toArray] W fun e w' => e = .returned (.int .i64 (cmpK x.1 y.1)) ∧ ∃ q os', w' = grow (W.drewN q) os' := by
  have hcon := fun W' => cmp_K x.1 y.1 W'
  generalize cmpK x.1 y.1 = r at hcon ⊢
  unfold encE
  go_enter Try.func24, Try.ntmps24
  go_wp2_with fail
  refine (hcon _).mono ?_
  rintro e w' ⟨rfl, rfl⟩
  go_wp2_with fail
  go_ret
  exact ⟨rfl, 0, _, by rw [alloc_eq_grow, alloc_eq_grow, grow_grow]; rfl⟩

theorem cmpK_lt (x y : ByteArray) : decide (cmpK x y < 0) = bl x y := by
  unfold cmpK
  cases h1 : bl x y with
  | true => simp
  | false => cases h2 : bl y x <;> simp

theorem ltE (x y : Ent) : ltOf (fun x y : Ent => cmpK x.1 y.1) x y = bl x.1 y.1 := by
  unfold ltOf
  exact cmpK_lt _ _

theorem swoE : SWO (ltOf fun x y : Ent => cmpK x.1 y.1) where
  irrefl x := by rw [ltE]; exact kl_irr _
  trans x y z h1 h2 := by rw [ltE] at *; exact kl_trans h1 h2
  ntrans x y z h1 h2 := by
    rw [ltE] at *
    rcases kl_tri x.1 y.1 with h | h | h
    · rw [h] at h1; cases h1
    · rw [h]; exact h2
    · cases h3 : bl x.1 z.1 with
      | false => rfl
      | true => rw [kl_trans h h3] at h2; cases h2

/-- the entries sorted by their keys -/
theorem sortE (blk off cap : Nat) (d : Array Ent) (w : World) (hH : HoldsK encE 6 w blk off d) (hblk : blk < w.heap.size) (hsz : d.size < 4611686018427387904) :
    Calls Try.prog 23 #[.slice (some ⟨blk, off, none⟩) d.size cap, .func (.func 24) #[] #[]] w fun e w' => e = .returned (.tuple #[]) ∧ ∃ d' n os, PermIn 0 d.size d d' ∧ SortedIn (ltOf fun x y : Ent => cmpK x.1 y.1) 0 d.size d' ∧ w' = sortWorldK encE 6 w blk off n d' os := by
  have eg : ∀ args w, (callFunc 24 args).run Try.prog w = .ok (.enter 24 args) w := enters_of Try.func24 (by kernel_rfl) rfl
  exact AnyQ.slices_SortFunc sortEnt 6 Try.isAgg29 Try.sizeOf29 encE (fun _ => rfl) (fun x v hv => by simp [encE] at hv; rcases hv with rfl | rfl | rfl | rfl | rfl | rfl <;> rfl) (fun x y => cmpK x.1 y.1) swoE 24 #[] blk off cap d w eg (fun _ _ _ _ x y => byKey_any x y _) hH hblk hsz
end Go.Proofs.Ytcopkhmmpamboaa
