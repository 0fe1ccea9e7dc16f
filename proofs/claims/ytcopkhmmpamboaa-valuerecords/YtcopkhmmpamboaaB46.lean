/-
  The walk of value.Without where it refuses; conditions: the form's own reach.
  value.With, Without and Get, each with one contract; conditions: the form's own reach.
  The walk of the document's place: where a key stands among a value's keys; conditions: the form's own reach.
-/
import Derived.Test.YtcopkhmmpamboaaB45
import Derived.Test.YtcopkhmmpamboaaB41
import Derived.Test.YtcopkhmmpamboaaB17
import Derived.Test.YtcopkhmmpamboaaB13
namespace Go.Proofs.Ytcopkhmmpamboaa
open Go.RowKit
set_option linter.unusedVariables false
set_option linter.unusedSimpArgs false

/-- what Without answers -/
def withoutC (v : Vl) (key : ByteArray) : Int :=
  if rightB v = true then (if v.kind = 5 then (if placeK v.ks key = none then 32 else 0) else 31) else 30

set_option maxRecDepth 100000 in
set_option maxHeartbeats 2000000 in
theorem without_no (v : Vl) (vv : Value) (B : Nat) (key : ByteArray) (w : World) (hv : IsV w B v vv) (hBs : B ≤ w.heap.size) (hno : withoutC v key ≠ 0) :
    Calls Try.prog 17 #[vv, .string key] w fun e w' => e = .returned (.tuple #[.agg #[.int .i64 0, .int .i64 0, .string ⟨#[]⟩, .slice none 0 0, .slice none 0 0], .int .i64 (withoutC v key)]) ∧ Below w.heap.size w w' := by
  obtain ⟨k, n, s, l, ks, al, ak, cl, ck, rfl, rfl⟩ := hv.shape
  obtain ⟨m, hm⟩ : ∃ m, ks.length = m := ⟨_, rfl⟩
  obtain ⟨ln, hln⟩ : ∃ ln, l.length = ln := ⟨_, rfl⟩
  rw [hm, hln] at hv
  rw [hm, hln]
  obtain ⟨g, hg⟩ : ∃ g, w.heap.size = g := ⟨_, rfl⟩
  have TW := Two.mk' w 27 #[.int .i64 k, .int .i64 n, .string s, .slice al ln cl, .slice ak m ck] #[.int .i64 0, .int .i64 0, .string ⟨#[]⟩, .slice none 0 0, .slice none 0 0]
  obtain ⟨w2, hw2⟩ : ∃ w2, (w.alloc (.cells #[.int .i64 k, .int .i64 n, .string s, .slice al ln cl, .slice ak m ck] 27)).alloc (.cells #[.int .i64 0, .int .i64 0, .string ⟨#[]⟩, .slice none 0 0, .slice none 0 0] 27) = w2 := ⟨_, rfl⟩
  rw [hw2, hg] at TW
  have hz : Wy w w2 g #[.int .i64 k, .int .i64 n, .string s, .slice al ln cl, .slice ak m ck] #[.int .i64 0, .int .i64 0, .string ⟨#[]⟩, .slice none 0 0, .slice none 0 0] := by
    have h1 := TW.later (Below.refl _ _)
    have h2 := TW.size
    have h3 := TW.below
    rw [hg] at h3
    exact ⟨h1.1, h1.2, by omega, h3⟩
  have HVV : Hid (∀ u, Below g w u → IsV u B (.mk k n s l ks) (.agg #[.int .i64 k, .int .i64 n, .string s, .slice al ln cl, .slice ak m ck]) ∧ B ≤ u.heap.size) := hide (fun u hu => ⟨hv.mono (hu.mono (by omega)), by have := hu.size; omega⟩)
  have CR := hide (right_code (.mk k n s l ks) _ B w2 (unhide HVV w2 hz.below).1 (unhide HVV w2 hz.below).2)
  have HZ := hide hz
  obtain ⟨c0, c1, c2, c3, c4⟩ := row_cell hz.at0
  clear hz hv hln TW
  cases hR : rightB (.mk k n s l ks) with
  | false =>
    have hC : withoutC (.mk k n s l ks) key = 30 := by unfold withoutC; rw [if_neg (by rw [hR]; simp)]
    rw [hC]
    rw [hR] at CR
    clear hno hC hR hm
    go_enter Try.func17, Try.ntmps17
    go_wp2_with fail
    refine (unhide CR).mono ?_
    rintro e u3 ⟨rfl, b3⟩
    have HZ3 := hide ((unhide HZ).later b3)
    clear b3 CR c0 c1 c2 c3 c4 hw2
    have ATX : u3.heap[g + 1]? = some (.cells #[.int .i64 0, .int .i64 0, .string ⟨#[]⟩, .slice none 0 0, .slice none 0 0] 27 (0, 0)) := (unhide HZ3).at1
    obtain ⟨z0, z1, z2, z3, z4⟩ := row_cell ATX
    have fz : ∀ q, u3.frozen? ⟨g + 1, q, none⟩ = false := fun q => frozen_of_row u3 (g + 1) q _ _ ATX
    have fz0 := fz 0
    have fz1 := fz 1
    have fz2 := fz 2
    have fz3 := fz 3
    have fz4 := fz 4
    have HAT := hide ATX
    clear fz ATX
    go_wp2_with fail
    have ATX := unhide HAT
    have BW : Below g w u3 := (unhide HZ3).below
    have R9 := five_set u3 (g + 1) 27 _ _ _ _ _ (.int .i64 0) (.int .i64 0) (.string ⟨#[]⟩) (.slice none 0 0) (.slice none 0 0) ATX
    have B9 := five_below (g := g + 1) BW (by omega) (.int .i64 0) (.int .i64 0) (.string ⟨#[]⟩) (.slice none 0 0) (.slice none 0 0)
    obtain ⟨w9, hw9⟩ : ∃ w9, (((((u3.setCell ⟨g + 1, 0, none⟩ (.int .i64 0)).setCell ⟨g + 1, 1, none⟩ (.int .i64 0)).setCell ⟨g + 1, 2, none⟩ (.string ⟨#[]⟩)).setCell ⟨g + 1, 3, none⟩ (.slice none 0 0)).setCell ⟨g + 1, 4, none⟩ (.slice none 0 0)) = w9 := ⟨_, rfl⟩
    rw [hw9] at R9 B9 ⊢
    obtain ⟨r0, r1, r2, r3, r4⟩ := row_cell R9
    refine bodyPost_ret (v := .tuple #[.agg #[.int .i64 0, .int .i64 0, .string ⟨#[]⟩, .slice none 0 0, .slice none 0 0], .int .i64 30]) (by simp [results, Try.results17, go_sem, r0, r1, r2, r3, r4]) rfl ?_
    rw [hg]
    exact ⟨rfl, B9⟩
  | true =>
    by_cases h5 : k = 5
    · subst h5
      have hp : placeK ks key = none := by
        unfold withoutC at hno
        rw [if_pos hR, if_pos rfl] at hno
        by_cases hp : placeK ks key = none
        · exact hp
        · rw [if_neg hp] at hno
          exact absurd rfl hno
      have hC : withoutC (.mk 5 n s l ks) key = 32 := by unfold withoutC; rw [if_pos hR, if_pos rfl, if_pos hp]
      have HR := hide (And.intro (right_keys hR).1 (And.intro hm hp))
      rw [hC]
      rw [hR] at CR
      clear hno hC hR hm hp
      go_enter Try.func17, Try.ntmps17
      go_wp2_with fail
      refine (unhide CR).mono ?_
      rintro e u3 ⟨rfl, b3⟩
      have HZ3 := hide ((unhide HZ).later b3)
      clear b3 CR c0 c1 c2 c3 c4 hw2
      obtain ⟨c0, c1, c2, c3, c4⟩ := row_cell (unhide HZ3).at0
      have CB := hide (search_any ks ak ck u3 (unhide HVV u3 (unhide HZ3).below).1.keys.1 (unhide HR).1 key)
      rw [(unhide HR).2.1] at CB
      go_wp2_with fail
      refine (unhide CB).mono ?_
      rintro e u4 ⟨L, rfl, hL1, hL2, rfl⟩
      have hF : decide (ks[L]? = some key) = false := by
        cases hd : decide (ks[L]? = some key) with
        | false => rfl
        | true =>
          have h1 := (place_of (unhide HR).1 hL2).1 (of_decide_eq_true hd)
          rw [(unhide HR).2.2] at h1
          cases h1
      rw [hF]
      clear hF hL1 hL2 CB
      have ATX : u4.heap[g + 1]? = some (.cells #[.int .i64 0, .int .i64 0, .string ⟨#[]⟩, .slice none 0 0, .slice none 0 0] 27 (0, 0)) := (unhide HZ3).at1
      obtain ⟨z0, z1, z2, z3, z4⟩ := row_cell ATX
      have fz : ∀ q, u4.frozen? ⟨g + 1, q, none⟩ = false := fun q => frozen_of_row u4 (g + 1) q _ _ ATX
      have fz0 := fz 0
      have fz1 := fz 1
      have fz2 := fz 2
      have fz3 := fz 3
      have fz4 := fz 4
      have HAT := hide ATX
      clear fz ATX
      go_wp2_with fail
      have ATX := unhide HAT
      have BW : Below g w u4 := (unhide HZ3).below
      have R9 := five_set u4 (g + 1) 27 _ _ _ _ _ (.int .i64 0) (.int .i64 0) (.string ⟨#[]⟩) (.slice none 0 0) (.slice none 0 0) ATX
      have B9 := five_below (g := g + 1) BW (by omega) (.int .i64 0) (.int .i64 0) (.string ⟨#[]⟩) (.slice none 0 0) (.slice none 0 0)
      obtain ⟨w9, hw9⟩ : ∃ w9, (((((u4.setCell ⟨g + 1, 0, none⟩ (.int .i64 0)).setCell ⟨g + 1, 1, none⟩ (.int .i64 0)).setCell ⟨g + 1, 2, none⟩ (.string ⟨#[]⟩)).setCell ⟨g + 1, 3, none⟩ (.slice none 0 0)).setCell ⟨g + 1, 4, none⟩ (.slice none 0 0)) = w9 := ⟨_, rfl⟩
      rw [hw9] at R9 B9 ⊢
      obtain ⟨r0, r1, r2, r3, r4⟩ := row_cell R9
      refine bodyPost_ret (v := .tuple #[.agg #[.int .i64 0, .int .i64 0, .string ⟨#[]⟩, .slice none 0 0, .slice none 0 0], .int .i64 32]) (by simp [results, Try.results17, go_sem, r0, r1, r2, r3, r4]) rfl ?_
      rw [hg]
      exact ⟨rfl, B9⟩
    · have hC : withoutC (.mk k n s l ks) key = 31 := by unfold withoutC; rw [if_pos hR, if_neg h5]
      rw [hC]
      rw [hR] at CR
      clear hno hC hR hm
      go_enter Try.func17, Try.ntmps17
      go_wp2_with fail
      refine (unhide CR).mono ?_
      rintro e u3 ⟨rfl, b3⟩
      have HZ3 := hide ((unhide HZ).later b3)
      clear b3 CR c0 c1 c2 c3 c4 hw2
      obtain ⟨c0, c1, c2, c3, c4⟩ := row_cell (unhide HZ3).at0
      have ATX : u3.heap[g + 1]? = some (.cells #[.int .i64 0, .int .i64 0, .string ⟨#[]⟩, .slice none 0 0, .slice none 0 0] 27 (0, 0)) := (unhide HZ3).at1
      obtain ⟨z0, z1, z2, z3, z4⟩ := row_cell ATX
      have fz : ∀ q, u3.frozen? ⟨g + 1, q, none⟩ = false := fun q => frozen_of_row u3 (g + 1) q _ _ ATX
      have fz0 := fz 0
      have fz1 := fz 1
      have fz2 := fz 2
      have fz3 := fz 3
      have fz4 := fz 4
      have HAT := hide ATX
      clear fz ATX
      go_wp2_with fail
      have ATX := unhide HAT
      have BW : Below g w u3 := (unhide HZ3).below
      have R9 := five_set u3 (g + 1) 27 _ _ _ _ _ (.int .i64 0) (.int .i64 0) (.string ⟨#[]⟩) (.slice none 0 0) (.slice none 0 0) ATX
      have B9 := five_below (g := g + 1) BW (by omega) (.int .i64 0) (.int .i64 0) (.string ⟨#[]⟩) (.slice none 0 0) (.slice none 0 0)
      obtain ⟨w9, hw9⟩ : ∃ w9, (((((u3.setCell ⟨g + 1, 0, none⟩ (.int .i64 0)).setCell ⟨g + 1, 1, none⟩ (.int .i64 0)).setCell ⟨g + 1, 2, none⟩ (.string ⟨#[]⟩)).setCell ⟨g + 1, 3, none⟩ (.slice none 0 0)).setCell ⟨g + 1, 4, none⟩ (.slice none 0 0)) = w9 := ⟨_, rfl⟩
      rw [hw9] at R9 B9 ⊢
      obtain ⟨r0, r1, r2, r3, r4⟩ := row_cell R9
      refine bodyPost_ret (v := .tuple #[.agg #[.int .i64 0, .int .i64 0, .string ⟨#[]⟩, .slice none 0 0, .slice none 0 0], .int .i64 31]) (by simp [results, Try.results17, go_sem, r0, r1, r2, r3, r4]) rfl ?_
      rw [hg]
      exact ⟨rfl, B9⟩
end Go.Proofs.Ytcopkhmmpamboaa

namespace Go.Proofs.Ytcopkhmmpamboaa
open Go.RowKit
set_option linter.unusedVariables false
set_option linter.unusedSimpArgs false

/-- what With answers -/
def withE (v : Vl) (key : ByteArray) (x : Vl) : Int := if withC v key x = 0 then (if rightB (withV v.l v.ks key x) = true then 0 else 33) else withC v key x

theorem withC_zero {v x : Vl} {key : ByteArray} (h : withC v key x = 0) : rightB v = true ∧ rightB x = true ∧ v.kind = 5 ∧ key.size ≤ 32 := by
  unfold withC at h
  split at h
  · next h1 =>
    split at h
    · next h2 =>
      split at h
      · next h3 => exact ⟨h1.1, h1.2, h2, h3⟩
      · cases h
    · cases h
  · cases h

theorem with_any (v x : Vl) (vv xx : Value) (B : Nat) (key : ByteArray) (w : World) (hv : IsV w B v vv) (hx : IsV w B x xx) (hBs : B ≤ w.heap.size) :
    Calls Try.prog 15 #[vv, .string key, xx] w fun e w' => ∃ x', e = .returned (.tuple #[x', .int .i64 (withE v key x)]) ∧ Below w.heap.size w w' ∧ (withE v key x = 0 → IsQ w' (fun b => w.heap.size ≤ b ∧ b < w'.heap.size) (withV v.l v.ks key x) x') ∧ (withE v key x ≠ 0 → x' = .agg #[.int .i64 0, .int .i64 0, .string ⟨#[]⟩, .slice none 0 0, .slice none 0 0]) := by
  by_cases h0 : withC v key x = 0
  · obtain ⟨h1, h2, h3, h4⟩ := withC_zero h0
    obtain ⟨k, n, s, l, ks, al, ak, cl, ck, rfl, rfl⟩ := hv.shape
    have h3' : k = 5 := h3
    subst h3'
    have he : withE (.mk 5 n s l ks) key x = if rightB (withV l ks key x) = true then 0 else 33 := by unfold withE; rw [if_pos h0]
    refine (with_in n s l ks al ak cl ck x xx B key w hv hx hBs h1 h2 h4).mono ?_
    rintro e w' ⟨x', rfl, b, q1, q2⟩
    rw [he]
    refine ⟨x', rfl, b, fun h => q1 ?_, fun h => q2 ?_⟩
    · cases hR : rightB (withV l ks key x) with
      | true => rfl
      | false => rw [hR] at h; simp at h
    · cases hR : rightB (withV l ks key x) with
      | true => rw [hR] at h; simp at h
      | false => rfl
  · have he : withE v key x = withC v key x := by unfold withE; rw [if_neg h0]
    rw [he]
    refine (with_no v x vv xx B key w hv hx hBs h0).mono ?_
    rintro e w' ⟨rfl, b⟩
    exact ⟨_, rfl, b, fun h => absurd h h0, fun _ => rfl⟩

theorem withoutC_zero {v : Vl} {key : ByteArray} (h : withoutC v key = 0) : rightB v = true ∧ v.kind = 5 ∧ ∃ I, placeK v.ks key = some I := by
  unfold withoutC at h
  split at h
  · next h1 =>
    split at h
    · next h2 =>
      split at h
      · cases h
      · next h3 =>
        cases hp : placeK v.ks key with
        | none => exact absurd hp h3
        | some I => exact ⟨h1, h2, I, rfl⟩
    · cases h
  · cases h

theorem without_any (v : Vl) (vv : Value) (B : Nat) (key : ByteArray) (w : World) (hv : IsV w B v vv) (hBs : B ≤ w.heap.size) :
    Calls Try.prog 17 #[vv, .string key] w fun e w' => ∃ x', e = .returned (.tuple #[x', .int .i64 (withoutC v key)]) ∧ Below w.heap.size w w' ∧ (∀ I, withoutC v key = 0 → placeK v.ks key = some I → IsQ w' (fun b => w.heap.size ≤ b ∧ b < w'.heap.size) (.mk 5 v.n v.s (v.l.eraseIdx I) (v.ks.eraseIdx I)) x') ∧ (withoutC v key ≠ 0 → x' = .agg #[.int .i64 0, .int .i64 0, .string ⟨#[]⟩, .slice none 0 0, .slice none 0 0]) := by
  by_cases h0 : withoutC v key = 0
  · obtain ⟨h1, h2, I, hI⟩ := withoutC_zero h0
    obtain ⟨k, n, s, l, ks, al, ak, cl, ck, rfl, rfl⟩ := hv.shape
    have h2' : k = 5 := h2
    subst h2'
    rw [h0]
    refine (without_in n s l ks al ak cl ck B key I w hv hBs h1 hI).mono ?_
    rintro e w' ⟨x', rfl, b, q⟩
    refine ⟨x', rfl, b, fun J _ hJ => ?_, fun h => absurd rfl h⟩
    have e1 : some I = some J := hI.symm.trans hJ
    cases e1
    exact q
  · refine (without_no v vv B key w hv hBs h0).mono ?_
    rintro e w' ⟨rfl, b⟩
    exact ⟨_, rfl, b, fun _ h => absurd h h0, fun _ => rfl⟩

theorem get_any (v : Vl) (vv : Value) (B : Nat) (key : ByteArray) (w : World) (hv : IsV w B v vv) (hBs : B ≤ w.heap.size) :
    Calls Try.prog 13 #[vv, .string key] w fun e w' => ∃ x', e = .returned (.tuple #[x', .bool (getR v key).isSome]) ∧ Below w.heap.size w w' ∧ IsV w' w'.heap.size ((getR v key).getD (.mk 0 0 ⟨#[]⟩ [] [])) x' := by
  cases h : getR v key with
  | none =>
    refine (get_no v vv B w hv hBs key h).mono ?_
    rintro e w' ⟨rfl, b⟩
    exact ⟨_, rfl, b, IsP.of (V := fun _ => []) ⟨by omega, by omega, by decide, fun _ => ⟨rfl, rfl⟩, fun _ => ⟨rfl, rfl⟩, Nat.le_refl _, Nat.le_refl _, by decide, by decide, by decide, fun a ha => by (cases ha), fun i hi => by (simp at hi), fun a ha => by (cases ha), fun t ht => by (cases ht)⟩ (fun i y hy => by simp at hy)⟩
  | some y =>
    refine (get_is v vv B w hv hBs key y h).mono ?_
    rintro e w' ⟨x', rfl, b, q⟩
    exact ⟨x', rfl, b, q.isV (fun b hb => hb.2)⟩
end Go.Proofs.Ytcopkhmmpamboaa

namespace Go.Proofs.Ytcopkhmmpamboaa
open Go.RowKit
set_option linter.unusedVariables false
set_option linter.unusedSimpArgs false

def placeI (ks : List ByteArray) (key : ByteArray) : Int := match placeK ks key with | some i => (i : Int) | none => -1

theorem placeI_none {ks : List ByteArray} {key : ByteArray} (h : ∀ j t, j < ks.length → ks[j]? = some t → t ≠ key) : placeI ks key = -1 := by
  have h1 : placeK ks key = none := by
    unfold placeK
    rw [List.findIdx?_eq_none_iff]
    intro t ht
    obtain ⟨j, hj⟩ := List.getElem?_of_mem ht
    simp only [decide_eq_false_iff_not]
    exact h j t (List.getElem?_eq_some_iff.1 hj).1 hj
  unfold placeI
  rw [h1]

theorem placeI_some {ks : List ByteArray} {key : ByteArray} {i : Nat} (h : ∀ j t, j < i → ks[j]? = some t → t ≠ key) (hi : ks[i]? = some key) : placeI ks key = (i : Int) := by
  have h1 : placeK ks key = some i := by
    unfold placeK
    obtain ⟨hl, he⟩ := List.getElem?_eq_some_iff.1 hi
    rw [List.findIdx?_eq_some_iff_getElem]
    refine ⟨hl, by simp [he], fun j hj => ?_⟩
    simp only [decide_eq_true_eq]
    exact h j _ hj (List.getElem?_eq_getElem (by omega))
  unfold placeI
  rw [h1]

set_option maxRecDepth 100000 in
set_option maxHeartbeats 1000000 in
theorem place_any (v : Vl) (x : Value) (B : Nat) (key : ByteArray) (w : World) (hv : IsV w B v x) (hBs : B ≤ w.heap.size) :
    Calls Try.prog 32 #[x, .string key] w fun e w' => e = .returned (.int .i64 (placeI v.ks key)) ∧ Below w.heap.size w w' := by
  obtain ⟨k, n, s, l, ks, al, ak, cl, ck, rfl, rfl⟩ := hv.shape
  obtain ⟨m, hm⟩ : ∃ m, ks.length = m := ⟨_, rfl⟩
  obtain ⟨ln, hln⟩ : ∃ ln, l.length = ln := ⟨_, rfl⟩
  rw [hm, hln] at hv
  rw [hm, hln]
  have hmb : m ≤ 140737488351232 := by
    obtain ⟨_, _, _, _, h2, V', hf, _⟩ := IsP.at hv
    have := hf.bc
    omega
  have BX := Box.mk' w (.int .i64 k) (.int .i64 n) (.string s) (.slice al ln cl) (.slice ak m ck)
  obtain ⟨w1, hw1⟩ : ∃ w1, w.alloc (.cells #[.int .i64 k, .int .i64 n, .string s, .slice al ln cl, .slice ak m ck] 27) = w1 := ⟨_, rfl⟩
  rw [hw1] at BX
  obtain ⟨g, hg⟩ : ∃ g, w.heap.size = g := ⟨_, rfl⟩
  have at0 := BX.row
  rw [hg] at at0
  have HB : Hid (Below g w w1) := hide (by rw [← hg]; exact BX.below)
  have HV : Hid (IsV w1 B (.mk k n s l ks) (.agg #[.int .i64 k, .int .i64 n, .string s, .slice al ln cl, .slice ak m ck])) := hide (hv.mono (BX.below.mono (by omega)))
  have HL := hide hm
  have HZ : Hid (∀ j t, j < 0 → ks[j]? = some t → t ≠ key) := hide (fun j t h => by omega)
  obtain ⟨c0, c1, c2, c3, c4⟩ := row_cell at0
  clear BX hv hm hln at0
  go_enter Try.func32, Try.ntmps32
  go_upto_region 1 with fail
  try rw [hw1]
  clear hw1
  go_wp2_with fail
  go_loopw [5] (fun x wr => ∃ i : Nat, i ≤ m ∧ x = .int .i64 i ∧ wr = w1 ∧ Hid (∀ j t, j < i → ks[j]? = some t → t ≠ key)) (fun x _ => m - (intOf x).toNat)
  case atStart => exact ⟨0, Nat.zero_le _, rfl, rfl, HZ⟩
  case round =>
    clear HZ
    obtain ⟨i, hi, rfl, rfl, HN⟩ := hrel
    by_cases hlt : i < m
    · have i1 : (i : Int) < (m : Int) := by omega
      have i0 : (0 : Int) ≤ (i : Int) := by omega
      obtain ⟨tk, htk⟩ : ∃ tk, ks[i]? = some tk := ⟨_, List.getElem?_eq_getElem (by have := unhide HL; omega)⟩
      obtain ⟨a2, rfl⟩ : ∃ a2, ak = some a2 := by
        cases ak with
        | none => have h1 := (unhide HV).keys.1.none rfl; have h2 := unhide HL; omega
        | some a2 => exact ⟨a2, rfl⟩
      have cK := (unhide HV).keys.1.cell a2 rfl i tk htk
      have HT := hide htk
      have HI1 : Hid (i + 1 ≤ m) := hide (by omega)
      clear htk
      cases hbe : (tk.toList == key.toList) with
      | true =>
        have HF : Hid (placeI ks key = (i : Int)) := hide (placeI_some (unhide HN) (by rw [← (bytes_beq tk key).1 hbe]; exact unhide HT))
        go_wp2_with fail
        go_ret
        exact ⟨by rw [unhide HF]; rfl, by first | exact unhide HB | (rw [hg]; exact unhide HB)⟩
      | false =>
        have HN1 : Hid (∀ j t, j < i + 1 → ks[j]? = some t → t ≠ key) := hide (fun j t hj ht => by
          by_cases e : j < i
          · exact unhide HN j t e ht
          · obtain rfl : j = i := by omega
            rw [unhide HT] at ht
            cases ht
            intro e
            rw [(bytes_beq tk key).2 e] at hbe
            cases hbe)
        go_wp2_with fail
        go_roundw
        case rel => exact ⟨i + 1, unhide HI1, by go_num, by first | rfl | trivial, HN1⟩
        case measure => have := unhide HI1; simp [intOf]; omega
    · have i1 : ¬ (i : Int) < (m : Int) := by omega
      have HF : Hid (placeI ks key = -1) := hide (placeI_none (fun j t hj ht => unhide HN j t (by have := unhide HL; omega) ht))
      go_wp2_with fail
      go_ret
      exact ⟨by rw [unhide HF]; rfl, by first | exact unhide HB | (rw [hg]; exact unhide HB)⟩
end Go.Proofs.Ytcopkhmmpamboaa
