/-
  Get, At and New of a table of whole numbers; no conditions but that its keys rise.
-/
import Derived.Test.YtflopmhjgamcfaaTDelI
set_option linter.unusedSimpArgs false
namespace Go.Proofs.Ytflopmhjgamcfaa
open Go.RowKit

set_option maxRecDepth 100000 in
theorem new_I (w : World) : Calls Try.prog 26 #[] w fun e w' => e = .returned (.pointer (some ⟨w.heap.size, 0, none⟩)) ∧ w' = w.alloc (.cells #[.slice none 0 0] 73) := by
  go_enter Try.func26, Try.ntmps26
  go_wp2_with fail
  go_ret
  exact ⟨rfl, rfl⟩

/-- the cells of a pair at its place -/
theorem tab_cellsI {base g : Nat} {v : Value} {l : Prs} {w : World} (h : TabI w base g v l) : ∃ ao cap, v = .slice ao l.length cap ∧ l.length ≤ 9223372036854775807 ∧ ∀ i p, l[i]? = some p → ∃ b, ao = some ⟨b, 0, none⟩ ∧ w.cell? ⟨b, i * 2, none⟩ = some (.int .i64 p.1) ∧ w.cell? ⟨b, i * 2 + 1, none⟩ = some (.int .i64 p.2) := by
  obtain ⟨ao, cap, rfl, hcap, hmax, hnone, hsome⟩ := own_shape h.row
  rw [valsI_len] at hcap hnone ⊢
  refine ⟨ao, cap, rfl, by unfold maxLen at hmax; omega, fun i p hp => ?_⟩
  cases ao with
  | none =>
    have := (List.getElem?_eq_some_iff.1 hp).1
    have := hnone rfl
    omega
  | some ad =>
    obtain ⟨b, rfl, -, -, hb⟩ := hsome ad rfl
    exact ⟨b, rfl, (hb i _ (valsI_at hp)).1, (hb i _ (valsI_at hp)).2⟩

/-- what Get tells -/
def getL (l : Prs) (k : Int) : Int := match l[low l k]? with | some p => if p.1 = k then p.2 else 0 | none => 0

set_option maxRecDepth 100000 in
theorem get_I {base g : Nat} {v : Value} {l : Prs} {w : World} (h : TabI w base g v l) (hr : RisesI l) (k : Int) :
    Calls Try.prog 20 #[.pointer (some ⟨g, 0, none⟩), .int .i64 k] w fun e w' => e = .returned (.tuple #[.int .i64 (getL l k), .bool (has l k)]) ∧ ∃ q, w' = w.drewN q := by
  have CF := hide (find_I h hr k)
  obtain ⟨ao, cap, rfl, hmx, hcell⟩ := tab_cellsI h
  have c0 : w.cell? ⟨g, 0, none⟩ = some (.slice ao l.length cap) := h.cell
  have HC := hide hcell
  have HR := hide hr
  clear h hcell hr
  go_enter Try.func20, Try.ntmps20
  go_wp2_with fail
  refine (unhide CF).mono ?_
  rintro e w1 ⟨L, rfl, hL, hlow, q, rfl⟩
  have HL : Hid (L = low l k) := hide (low_eq (unhide HR) hL hlow)
  have c0' : (w.drewN q).cell? ⟨g, 0, none⟩ = some (.slice ao l.length cap) := c0
  clear CF hlow c0
  by_cases hk : (l.map Prod.fst)[L]? = some k
  · rw [decide_eq_true hk]
    obtain ⟨p, hp, hpk⟩ : ∃ p, l[L]? = some p ∧ p.1 = k := by
      rw [List.getElem?_map] at hk
      obtain ⟨p, hp, he⟩ := Option.map_eq_some_iff.1 hk
      exact ⟨p, hp, he⟩
    have hlt : L < l.length := (List.getElem?_eq_some_iff.1 hp).1
    obtain ⟨b, rfl, _, cp⟩ := unhide HC L p hp
    have cp' : (w.drewN q).cell? ⟨b, L * 2 + 1, none⟩ = some (.int .i64 p.2) := cp
    have HP : Hid (has l k = true ∧ getL l k = p.2) := hide (by
      refine ⟨by unfold has; rw [← unhide HL]; exact decide_eq_true hk, ?_⟩
      unfold getL
      rw [← unhide HL, hp]
      simp [hpk])
    obtain ⟨n, hn⟩ : ∃ n, l.length = n := ⟨_, rfl⟩
    rw [hn] at c0' hlt hmx
    have i1 : (L : Int) < (n : Int) := by omega
    clear hp hpk cp hn hk
    go_wp2_with fail
    go_ret2
    exact ⟨by rw [(unhide HP).1, (unhide HP).2]; rfl, q, rfl⟩
  · rw [decide_eq_false hk]
    have HP : Hid (has l k = false ∧ getL l k = 0) := hide (by
      refine ⟨by unfold has; rw [← unhide HL]; exact decide_eq_false hk, ?_⟩
      unfold getL
      rw [← unhide HL]
      rw [List.getElem?_map] at hk
      cases hp : l[L]? with
      | none => rfl
      | some p =>
        rw [hp] at hk
        simp only
        rw [if_neg (fun e => hk (by simp [e]))])
    clear hk
    go_wp2_with fail
    go_ret2
    exact ⟨by rw [(unhide HP).1, (unhide HP).2]; rfl, q, rfl⟩

set_option maxRecDepth 100000 in
theorem at_I {base g : Nat} {v : Value} {l : Prs} {w : World} (h : TabI w base g v l) (i : Nat) (p : Int × Int) (hi : l[i]? = some p) :
    Calls Try.prog 21 #[.pointer (some ⟨g, 0, none⟩), .int .i64 i] w fun e w' => e = .returned (.tuple #[.int .i64 p.1, .int .i64 p.2, .bool true]) ∧ Below w.heap.size w w' := by
  have CL := hide (len_I h)
  obtain ⟨ao, cap, rfl, hmx, hcell⟩ := tab_cellsI h
  have c0 : w.cell? ⟨g, 0, none⟩ = some (.slice ao l.length cap) := h.cell
  obtain ⟨b, rfl, d0, d1⟩ := hcell i _ hi
  have hlt : i < l.length := (List.getElem?_eq_some_iff.1 hi).1
  obtain ⟨n, hn⟩ : ∃ n, l.length = n := ⟨_, rfl⟩
  rw [hn] at c0 hlt hmx CL
  have i1 : (i : Int) < (n : Int) := by omega
  have i2 : ¬ (i : Int) < 0 := by omega
  have i3 : ¬ (n : Int) ≤ (i : Int) := by omega
  clear h hcell hi hn
  go_enter Try.func21, Try.ntmps21
  go_wp2_with fail
  refine (unhide CL).mono ?_
  rintro e w1 ⟨rfl, rfl⟩
  go_wp2_with fail
  go_quiet (fail)
  go_wp2_with fail
  go_ret3
  exact ⟨rfl, below_drewN ((Below.refl _ _).alloc (Nat.le_refl _) _) _⟩

set_option maxRecDepth 100000 in
theorem at_outI {base g : Nat} {v : Value} {l : Prs} {w : World} (h : TabI w base g v l) (i : Int) (hi : i < 0 ∨ (l.length : Int) ≤ i) :
    Calls Try.prog 21 #[.pointer (some ⟨g, 0, none⟩), .int .i64 i] w fun e w' => e = .returned (.tuple #[.int .i64 0, .int .i64 0, .bool false]) ∧ Below w.heap.size w w' := by
  have CL := hide (len_I h)
  obtain ⟨n, hn⟩ : ∃ n, l.length = n := ⟨_, rfl⟩
  rw [hn] at CL hi
  clear h hn
  go_enter Try.func21, Try.ntmps21
  by_cases hk : i < 0
  · go_wp2_with fail
    go_quiet (fail)
    go_wp2_with fail
    go_ret3
    exact ⟨rfl, below_drewN ((Below.refl _ _).alloc (Nat.le_refl _) _) _⟩
  · have hk' : 0 ≤ i := by omega
    have hk2 : (n : Int) ≤ i := by omega
    go_wp2_with fail
    refine (unhide CL).mono ?_
    rintro e w1 ⟨rfl, rfl⟩
    go_wp2_with fail
    go_quiet (fail)
    go_wp2_with fail
    go_ret3
    exact ⟨rfl, below_drewN ((Below.refl _ _).alloc (Nat.le_refl _) _) _⟩
end Go.Proofs.Ytflopmhjgamcfaa
