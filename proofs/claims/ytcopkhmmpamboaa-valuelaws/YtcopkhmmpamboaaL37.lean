/-
  The walk of value.Without where it refuses; conditions: the form's own reach.
-/
import Derived.Test.YtcopkhmmpamboaaL36
namespace Go.Proofs.Ytcopkhmmpamboaa
open Go.RowKit
set_option linter.unusedVariables false
set_option linter.unusedSimpArgs false

/-- what Without answers -/
def withoutC (v : Vl) (key : ByteArray) : Int :=
  if rightB v = true then (if v.kind = 5 then (if placeK v.ks key = none then 32 else 0) else 31) else 30

set_option maxRecDepth 100000 in
set_option maxHeartbeats 2000000 in
theorem without_no (v : Vl) (vv : Value) (B : Nat) (key : ByteArray) (w : World) (hv : IsV w B v vv) (hBs : B ≤ w.heap.size) (hno : withoutC v key ≠ 0) :
    Calls Try.prog 17 #[vv, .string key] w fun e w' => e = .returned (.tuple #[.agg #[.int .i64 0, .int .i64 0, .string ⟨#[]⟩, .slice none 0 0, .slice none 0 0], .int .i64 (withoutC v key)]) ∧ Below w.heap.size w w' := by
  obtain ⟨k, n, s, l, ks, al, ak, cl, ck, rfl, rfl⟩ := hv.shape
  obtain ⟨m, hm⟩ : ∃ m, ks.length = m := ⟨_, rfl⟩
  obtain ⟨ln, hln⟩ : ∃ ln, l.length = ln := ⟨_, rfl⟩
  rw [hm, hln] at hv
  rw [hm, hln]
  obtain ⟨g, hg⟩ : ∃ g, w.heap.size = g := ⟨_, rfl⟩
  have TW := Two.mk' w 27 #[.int .i64 k, .int .i64 n, .string s, .slice al ln cl, .slice ak m ck] #[.int .i64 0, .int .i64 0, .string ⟨#[]⟩, .slice none 0 0, .slice none 0 0]
  obtain ⟨w2, hw2⟩ : ∃ w2, (w.alloc (.cells #[.int .i64 k, .int .i64 n, .string s, .slice al ln cl, .slice ak m ck] 27)).alloc (.cells #[.int .i64 0, .int .i64 0, .string ⟨#[]⟩, .slice none 0 0, .slice none 0 0] 27) = w2 := ⟨_, rfl⟩
  rw [hw2, hg] at TW
  have hz : Wy w w2 g #[.int .i64 k, .int .i64 n, .string s, .slice al ln cl, .slice ak m ck] #[.int .i64 0, .int .i64 0, .string ⟨#[]⟩, .slice none 0 0, .slice none 0 0] := by
    have h1 := TW.later (Below.refl _ _)
    have h2 := TW.size
    have h3 := TW.below
    rw [hg] at h3
    exact ⟨h1.1, h1.2, by omega, h3⟩
  have HVV : Hid (∀ u, Below g w u → IsV u B (.mk k n s l ks) (.agg #[.int .i64 k, .int .i64 n, .string s, .slice al ln cl, .slice ak m ck]) ∧ B ≤ u.heap.size) := hide (fun u hu => ⟨hv.mono (hu.mono (by omega)), by have := hu.size; omega⟩)
  have CR := hide (right_code (.mk k n s l ks) _ B w2 (unhide HVV w2 hz.below).1 (unhide HVV w2 hz.below).2)
  have HZ := hide hz
  obtain ⟨c0, c1, c2, c3, c4⟩ := row_cell hz.at0
  clear hz hv hln TW
  cases hR : rightB (.mk k n s l ks) with
  | false =>
    have hC : withoutC (.mk k n s l ks) key = 30 := by unfold withoutC; rw [if_neg (by rw [hR]; simp)]
    rw [hC]
    rw [hR] at CR
    clear hno hC hR hm
    go_enter Try.func17, Try.ntmps17
    go_wp2_with fail
    refine (unhide CR).mono ?_
    rintro e u3 ⟨rfl, b3⟩
    have HZ3 := hide ((unhide HZ).later b3)
    clear b3 CR c0 c1 c2 c3 c4 hw2
    have ATX : u3.heap[g + 1]? = some (.cells #[.int .i64 0, .int .i64 0, .string ⟨#[]⟩, .slice none 0 0, .slice none 0 0] 27 (0, 0)) := (unhide HZ3).at1
    obtain ⟨z0, z1, z2, z3, z4⟩ := row_cell ATX
    have fz : ∀ q, u3.frozen? ⟨g + 1, q, none⟩ = false := fun q => frozen_of_row u3 (g + 1) q _ _ ATX
    have fz0 := fz 0
    have fz1 := fz 1
    have fz2 := fz 2
    have fz3 := fz 3
    have fz4 := fz 4
    have HAT := hide ATX
    clear fz ATX
    go_wp2_with fail
    have ATX := unhide HAT
    have BW : Below g w u3 := (unhide HZ3).below
    have R9 := five_set u3 (g + 1) 27 _ _ _ _ _ (.int .i64 0) (.int .i64 0) (.string ⟨#[]⟩) (.slice none 0 0) (.slice none 0 0) ATX
    have B9 := five_below (g := g + 1) BW (by omega) (.int .i64 0) (.int .i64 0) (.string ⟨#[]⟩) (.slice none 0 0) (.slice none 0 0)
    obtain ⟨w9, hw9⟩ : ∃ w9, (((((u3.setCell ⟨g + 1, 0, none⟩ (.int .i64 0)).setCell ⟨g + 1, 1, none⟩ (.int .i64 0)).setCell ⟨g + 1, 2, none⟩ (.string ⟨#[]⟩)).setCell ⟨g + 1, 3, none⟩ (.slice none 0 0)).setCell ⟨g + 1, 4, none⟩ (.slice none 0 0)) = w9 := ⟨_, rfl⟩
    rw [hw9] at R9 B9 ⊢
    obtain ⟨r0, r1, r2, r3, r4⟩ := row_cell R9
    refine bodyPost_ret (v := .tuple #[.agg #[.int .i64 0, .int .i64 0, .string ⟨#[]⟩, .slice none 0 0, .slice none 0 0], .int .i64 30]) (by simp [results, Try.results17, go_sem, r0, r1, r2, r3, r4]) rfl ?_
    rw [hg]
    exact ⟨rfl, B9⟩
  | true =>
    by_cases h5 : k = 5
    · subst h5
      have hp : placeK ks key = none := by
        unfold withoutC at hno
        rw [if_pos hR, if_pos rfl] at hno
        by_cases hp : placeK ks key = none
        · exact hp
        · rw [if_neg hp] at hno
          exact absurd rfl hno
      have hC : withoutC (.mk 5 n s l ks) key = 32 := by unfold withoutC; rw [if_pos hR, if_pos rfl, if_pos hp]
      have HR := hide (And.intro (right_keys hR).1 (And.intro hm hp))
      rw [hC]
      rw [hR] at CR
      clear hno hC hR hm hp
      go_enter Try.func17, Try.ntmps17
      go_wp2_with fail
      refine (unhide CR).mono ?_
      rintro e u3 ⟨rfl, b3⟩
      have HZ3 := hide ((unhide HZ).later b3)
      clear b3 CR c0 c1 c2 c3 c4 hw2
      obtain ⟨c0, c1, c2, c3, c4⟩ := row_cell (unhide HZ3).at0
      have CB := hide (search_any ks ak ck u3 (unhide HVV u3 (unhide HZ3).below).1.keys.1 (unhide HR).1 key)
      rw [(unhide HR).2.1] at CB
      go_wp2_with fail
      refine (unhide CB).mono ?_
      rintro e u4 ⟨L, rfl, hL1, hL2, rfl⟩
      have hF : decide (ks[L]? = some key) = false := by
        cases hd : decide (ks[L]? = some key) with
        | false => rfl
        | true =>
          have h1 := (place_of (unhide HR).1 hL2).1 (of_decide_eq_true hd)
          rw [(unhide HR).2.2] at h1
          cases h1
      rw [hF]
      clear hF hL1 hL2 CB
      have ATX : u4.heap[g + 1]? = some (.cells #[.int .i64 0, .int .i64 0, .string ⟨#[]⟩, .slice none 0 0, .slice none 0 0] 27 (0, 0)) := (unhide HZ3).at1
      obtain ⟨z0, z1, z2, z3, z4⟩ := row_cell ATX
      have fz : ∀ q, u4.frozen? ⟨g + 1, q, none⟩ = false := fun q => frozen_of_row u4 (g + 1) q _ _ ATX
      have fz0 := fz 0
      have fz1 := fz 1
      have fz2 := fz 2
      have fz3 := fz 3
      have fz4 := fz 4
      have HAT := hide ATX
      clear fz ATX
      go_wp2_with fail
      have ATX := unhide HAT
      have BW : Below g w u4 := (unhide HZ3).below
      have R9 := five_set u4 (g + 1) 27 _ _ _ _ _ (.int .i64 0) (.int .i64 0) (.string ⟨#[]⟩) (.slice none 0 0) (.slice none 0 0) ATX
      have B9 := five_below (g := g + 1) BW (by omega) (.int .i64 0) (.int .i64 0) (.string ⟨#[]⟩) (.slice none 0 0) (.slice none 0 0)
      obtain ⟨w9, hw9⟩ : ∃ w9, (((((u4.setCell ⟨g + 1, 0, none⟩ (.int .i64 0)).setCell ⟨g + 1, 1, none⟩ (.int .i64 0)).setCell ⟨g + 1, 2, none⟩ (.string ⟨#[]⟩)).setCell ⟨g + 1, 3, none⟩ (.slice none 0 0)).setCell ⟨g + 1, 4, none⟩ (.slice none 0 0)) = w9 := ⟨_, rfl⟩
      rw [hw9] at R9 B9 ⊢
      obtain ⟨r0, r1, r2, r3, r4⟩ := row_cell R9
      refine bodyPost_ret (v := .tuple #[.agg #[.int .i64 0, .int .i64 0, .string ⟨#[]⟩, .slice none 0 0, .slice none 0 0], .int .i64 32]) (by simp [results, Try.results17, go_sem, r0, r1, r2, r3, r4]) rfl ?_
      rw [hg]
      exact ⟨rfl, B9⟩
    · have hC : withoutC (.mk k n s l ks) key = 31 := by unfold withoutC; rw [if_pos hR, if_neg h5]
      rw [hC]
      rw [hR] at CR
      clear hno hC hR hm
      go_enter Try.func17, Try.ntmps17
      go_wp2_with fail
      refine (unhide CR).mono ?_
      rintro e u3 ⟨rfl, b3⟩
      have HZ3 := hide ((unhide HZ).later b3)
      clear b3 CR c0 c1 c2 c3 c4 hw2
      obtain ⟨c0, c1, c2, c3, c4⟩ := row_cell (unhide HZ3).at0
      have ATX : u3.heap[g + 1]? = some (.cells #[.int .i64 0, .int .i64 0, .string ⟨#[]⟩, .slice none 0 0, .slice none 0 0] 27 (0, 0)) := (unhide HZ3).at1
      obtain ⟨z0, z1, z2, z3, z4⟩ := row_cell ATX
      have fz : ∀ q, u3.frozen? ⟨g + 1, q, none⟩ = false := fun q => frozen_of_row u3 (g + 1) q _ _ ATX
      have fz0 := fz 0
      have fz1 := fz 1
      have fz2 := fz 2
      have fz3 := fz 3
      have fz4 := fz 4
      have HAT := hide ATX
      clear fz ATX
      go_wp2_with fail
      have ATX := unhide HAT
      have BW : Below g w u3 := (unhide HZ3).below
      have R9 := five_set u3 (g + 1) 27 _ _ _ _ _ (.int .i64 0) (.int .i64 0) (.string ⟨#[]⟩) (.slice none 0 0) (.slice none 0 0) ATX
      have B9 := five_below (g := g + 1) BW (by omega) (.int .i64 0) (.int .i64 0) (.string ⟨#[]⟩) (.slice none 0 0) (.slice none 0 0)
      obtain ⟨w9, hw9⟩ : ∃ w9, (((((u3.setCell ⟨g + 1, 0, none⟩ (.int .i64 0)).setCell ⟨g + 1, 1, none⟩ (.int .i64 0)).setCell ⟨g + 1, 2, none⟩ (.string ⟨#[]⟩)).setCell ⟨g + 1, 3, none⟩ (.slice none 0 0)).setCell ⟨g + 1, 4, none⟩ (.slice none 0 0)) = w9 := ⟨_, rfl⟩
      rw [hw9] at R9 B9 ⊢
      obtain ⟨r0, r1, r2, r3, r4⟩ := row_cell R9
      refine bodyPost_ret (v := .tuple #[.agg #[.int .i64 0, .int .i64 0, .string ⟨#[]⟩, .slice none 0 0, .slice none 0 0], .int .i64 31]) (by simp [results, Try.results17, go_sem, r0, r1, r2, r3, r4]) rfl ?_
      rw [hg]
      exact ⟨rfl, B9⟩
end Go.Proofs.Ytcopkhmmpamboaa
