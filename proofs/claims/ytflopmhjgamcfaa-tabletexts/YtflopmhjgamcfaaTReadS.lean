/-
  Get, At and New of a table of texts; no conditions but that its keys rise.
-/
import Derived.Test.YtflopmhjgamcfaaTPutS
namespace Go.Proofs.Ytflopmhjgamcfaa
open Go.RowKit

set_option maxRecDepth 100000 in
theorem new_S (w : World) : Calls Try.prog 14 #[] w fun e w' => e = .returned (.pointer (some ⟨w.heap.size, 0, none⟩)) ∧ w' = w.alloc (.cells #[.slice none 0 0] 76) := by
  go_enter Try.func14, Try.ntmps14
  go_wp2_with fail
  go_ret
  exact ⟨rfl, rfl⟩

/-- the cells of a pair at its place -/
theorem tab_cells {base g : Nat} {v : Value} {l : List (ByteArray × Value)} {w : World} (h : TabS w base g v l) : ∃ ao cap, v = .slice ao l.length cap ∧ l.length ≤ 9223372036854775807 ∧ ∀ i p, l[i]? = some p → ∃ b, ao = some ⟨b, 0, none⟩ ∧ w.cell? ⟨b, i * 2, none⟩ = some (.string p.1) ∧ w.cell? ⟨b, i * 2 + 1, none⟩ = some p.2 := by
  obtain ⟨ao, cap, rfl, hcap, hmax, hnone, hsome⟩ := own_shape h.row
  rw [valsS_len] at hcap hnone ⊢
  refine ⟨ao, cap, rfl, by unfold maxLen at hmax; omega, fun i p hp => ?_⟩
  cases ao with
  | none =>
    have := (List.getElem?_eq_some_iff.1 hp).1
    have := hnone rfl
    omega
  | some ad =>
    obtain ⟨b, rfl, -, -, hb⟩ := hsome ad rfl
    exact ⟨b, rfl, (hb i _ (valsS_at hp)).1, (hb i _ (valsS_at hp)).2⟩

set_option maxRecDepth 100000 in
theorem get_S {base g : Nat} {v : Value} {l : List (ByteArray × Value)} {w : World} (h : TabS w base g v l) (hr : RisesS l) (hs : ∀ p ∈ l, ∃ ta tn tc, p.2 = .slice ta tn tc) (k : ByteArray) :
    Calls Try.prog 16 #[.pointer (some ⟨g, 0, none⟩), .string k] w fun e w' => ∃ ta tn tc r, e = .returned (.tuple #[.slice ta tn tc, .bool r]) ∧ (r = true ↔ ∃ p ∈ l, p.1 = k) ∧ ∃ q, w' = w.drewN q := by
  have CF := hide (find_S h hr k)
  obtain ⟨ao, cap, rfl, hmx, hcell⟩ := tab_cells h
  have c0 : w.cell? ⟨g, 0, none⟩ = some (.slice ao l.length cap) := h.cell
  have HC := hide hcell
  have HR := hide (And.intro hr hs)
  clear h hcell hr hs
  go_enter Try.func16, Try.ntmps16
  go_wp2_with fail
  refine (unhide CF).mono ?_
  rintro e w1 ⟨L, rfl, hL, hlow, q, rfl⟩
  have HL : Hid (Low l k L) := hide ⟨hL, hlow⟩
  have c0' : (w.drewN q).cell? ⟨g, 0, none⟩ = some (.slice ao l.length cap) := c0
  clear CF hlow c0
  by_cases hk : (l.map Prod.fst)[L]? = some k
  · rw [decide_eq_true hk]
    obtain ⟨p, hp, hpk⟩ : ∃ p, l[L]? = some p ∧ p.1 = k := by
      rw [List.getElem?_map] at hk
      obtain ⟨p, hp, he⟩ := Option.map_eq_some_iff.1 hk
      exact ⟨p, hp, he⟩
    have hlt : L < l.length := (List.getElem?_eq_some_iff.1 hp).1
    obtain ⟨b, rfl, _, cp⟩ := unhide HC L p hp
    obtain ⟨ta, tn, tc, hth⟩ := (unhide HR).2 p (List.mem_of_getElem? hp)
    rw [hth] at cp
    have cp' : (w.drewN q).cell? ⟨b, L * 2 + 1, none⟩ = some (.slice ta tn tc) := cp
    have HP : Hid (∃ p ∈ l, p.1 = k) := hide ⟨p, List.mem_of_getElem? hp, hpk⟩
    obtain ⟨n, hn⟩ : ∃ n, l.length = n := ⟨_, rfl⟩
    rw [hn] at c0' hlt hmx
    have i1 : (L : Int) < (n : Int) := by omega
    clear hp hpk cp hth hn hk
    go_wp2_with fail
    go_ret2
    exact ⟨ta, tn, tc, true, rfl, ⟨fun _ => unhide HP, fun _ => rfl⟩, q, rfl⟩
  · rw [decide_eq_false hk]
    have HKK := hide hk
    clear hk
    go_wp2_with fail
    go_ret2
    exact ⟨none, 0, 0, false, rfl, ⟨(fun h => by cases h), (fun h => by obtain ⟨p, hp, he⟩ := h; exact absurd he (low_absent (unhide HR).1 (unhide HL) (unhide HKK) hp))⟩, q, rfl⟩

set_option maxRecDepth 100000 in
theorem at_S {base g : Nat} {v : Value} {l : List (ByteArray × Value)} {w : World} (h : TabS w base g v l) (i : Nat) (k : ByteArray) (ta : Option Addr) (tn tc : Nat) (hi : l[i]? = some (k, .slice ta tn tc)) :
    Calls Try.prog 18 #[.pointer (some ⟨g, 0, none⟩), .int .i64 i] w fun e w' => e = .returned (.tuple #[.string k, .slice ta tn tc, .bool true]) ∧ Below w.heap.size w w' := by
  have CL := hide (len_S h)
  obtain ⟨ao, cap, rfl, hmx, hcell⟩ := tab_cells h
  have c0 : w.cell? ⟨g, 0, none⟩ = some (.slice ao l.length cap) := h.cell
  obtain ⟨b, rfl, d0, d1⟩ := hcell i _ hi
  have hlt : i < l.length := (List.getElem?_eq_some_iff.1 hi).1
  obtain ⟨n, hn⟩ : ∃ n, l.length = n := ⟨_, rfl⟩
  rw [hn] at c0 hlt hmx CL
  have i1 : (i : Int) < (n : Int) := by omega
  have i2 : ¬ (i : Int) < 0 := by omega
  have i3 : ¬ (n : Int) ≤ (i : Int) := by omega
  clear h hcell hi hn
  go_enter Try.func18, Try.ntmps18
  go_wp2_with fail
  refine (unhide CL).mono ?_
  rintro e w1 ⟨rfl, rfl⟩
  go_wp2_with fail
  go_quiet (fail)
  go_wp2_with fail
  go_ret3
  exact ⟨rfl, below_drewN ((Below.refl _ _).alloc (Nat.le_refl _) _) _⟩
end Go.Proofs.Ytflopmhjgamcfaa
