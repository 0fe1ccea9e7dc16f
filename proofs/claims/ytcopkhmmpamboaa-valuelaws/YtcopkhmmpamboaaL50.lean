/-
  What ValueLaws needs of trees: a right record's parts, Without of With, entries one behind the other; no conditions.
-/
import Derived.Test.YtcopkhmmpamboaaL49
namespace Go.Proofs.Ytcopkhmmpamboaa
open Go.RowKit
set_option linter.unusedVariables false
set_option linter.unusedSimpArgs false

theorem okL_up : ∀ (l : List Vl) (d : Nat), okL d l = true → okL (d + 1) l = true
  | [], d, _ => okL_nil _
  | .mk k n s l ks :: r, 0, h => by rw [okL_cons] at h; simp [okB] at h
  | .mk k n s l ks :: r, d + 1, h => by
    simp only [okL, Bool.and_eq_true] at h
    simp only [okL, Bool.and_eq_true]
    exact ⟨⟨h.1.1, okL_up l d h.1.2⟩, okL_up r (d + 1) h.2⟩

/-- a right record's parts -/
theorem rec_parts {n : Int} {s : ByteArray} {l : List Vl} {ks : List ByteArray} (h : rightB (.mk 5 n s l ks) = true) : (n = 0 ∧ s = ⟨#[]⟩ ∧ ks.length = l.length) ∧ risingFrom none ks = true ∧ l.all rightB = true ∧ l.length ≤ 2048 := by
  obtain ⟨h1, h2⟩ := right_wt h
  rw [show (8 : Nat) = 7 + 1 from rfl, okB, Bool.and_eq_true] at h1
  have h3 := h1.1
  unfold formB formM at h3
  simp at h3
  have hw : wtL l ≤ 2048 := by simp only [wt] at h2; omega
  refine ⟨⟨h3.1.1.1, ?_, by have := h3.1.2; omega⟩, h3.2, ?_, by have := cntL_wt l; have := len_cntL l; omega⟩
  · have := h3.1.1.2
    have e : s.toList = [] := by simpa using this
    exact (bytes_beq s ⟨#[]⟩).1 (by rw [e, ByteArray.toList_eq]; rfl)
  · rw [List.all_eq_true]
    intro y hy
    obtain ⟨i, hi, rfl⟩ := List.getElem_of_mem hy
    have h4 := okL_all 8 l (okL_up l 7 h1.2) _ hy
    have h5 := wt_le_wtL l i _ (List.getElem?_eq_getElem hi)
    unfold rightB
    rw [h4]
    simp
    omega

theorem back_of {r W x : Vl} {key : ByteArray} (hR : rightB r = true) (hW : rightB W = true) (h5 : r.kind = 5) (hwr : withV r.l r.ks key x = W) : ∃ I, withoutC W key = 0 ∧ placeK W.ks key = some I ∧ ((getR r key).isSome = false → Vl.mk 5 W.n W.s (W.l.eraseIdx I) (W.ks.eraseIdx I) = r) := by
  obtain ⟨rk, rn, rs, rl, rks⟩ := r
  have h5' : rk = 5 := h5
  subst h5'
  have hwr' : withV rl rks key x = W := hwr
  obtain ⟨⟨e1, e2, e3⟩, _⟩ := rec_parts hR
  obtain ⟨a1, a2, a3⟩ := with_at rl rks key x e3
  rw [hwr'] at a1 a2 a3
  have hp : placeK W.ks key = some (tw rks key) := by
    obtain ⟨wk, wn, ws, wl, wks⟩ := W
    have a3' : wk = 5 := a3
    subst a3'
    exact place_at (right_keys hW).1 a1
  refine ⟨tw rks key, ?_, hp, fun hno => ?_⟩
  · unfold withoutC
    rw [if_pos hW, if_pos a3, if_neg (by rw [hp]; simp)]
  · have hno' : getR (.mk 5 rn rs rl rks) key = none := by
      cases h : getR (.mk 5 rn rs rl rks) key with
      | none => rfl
      | some y => rw [h] at hno; simp at hno
    have h6 := without_with rn rs rl rks key x hR hno'
    rw [hwr'] at h6
    rw [h6.1, h6.2]
    have h7 : W.n = 0 ∧ W.s = ⟨#[]⟩ := by
      rw [← hwr']
      unfold withV
      split <;> exact ⟨rfl, rfl⟩
    rw [h7.1, h7.2, e1, e2]

theorem flatk_at6 : ∀ (rs : List (List Value)), (∀ r ∈ rs, r.length = 6) → ∀ (i : Nat) (r : List Value) (j : Nat) (v : Value), rs[i]? = some r → r[j]? = some v → rs.flatten[i * 6 + j]? = some v
  | [], _, i, r, j, v, h, _ => by simp at h
  | x :: rs, hk, i, r, j, v, h, hv => by
    have hx := hk x List.mem_cons_self
    cases i with
    | zero =>
      simp at h
      subst h
      rw [List.flatten_cons, Nat.zero_mul, Nat.zero_add, List.getElem?_append_left (List.getElem?_eq_some_iff.1 hv).1]
      exact hv
    | succ i =>
      rw [List.flatten_cons, List.getElem?_append_right (by rw [hx]; omega), hx, show (i + 1) * 6 + j - 6 = i * 6 + j by omega]
      exact flatk_at6 rs (fun y hy => hk y (List.mem_cons_of_mem _ hy)) i r j v (by simpa using h) hv

theorem flat_entries (d : Array Ent) : (Go.Sort.flatK encE 6 d).toList = d.toList.flatMap encE := by
  refine List.ext_getElem? fun q => ?_
  have hl : (d.toList.flatMap encE).length = d.size * 6 := by
    rw [List.length_flatMap]
    have : ∀ (l : List Ent), (l.map (fun x => (encE x).length)).sum = l.length * 6 := fun l => by
      induction l with
      | nil => rfl
      | cons a l ih => simp only [List.map_cons, List.sum_cons, ih, List.length_cons]; show 6 + _ = _; omega
    rw [this]
    simp
  by_cases hq : q < d.size * 6
  · have hs : q < (Go.Sort.flatK encE 6 d).size := by rw [Go.Sort.size_flatK]; exact hq
    have h2 := Go.Sort.get_flatK encE 6 d q (by omega)
    rw [getElem!_pos (Go.Sort.flatK encE 6 d) q hs] at h2
    rw [Array.getElem?_toList, Array.getElem?_eq_getElem hs, h2]
    have hi : q / 6 < d.size := by omega
    have h3 := flatk_at6 (d.toList.map encE) (fun r hr => by obtain ⟨f, _, rfl⟩ := List.mem_map.1 hr; rfl) (q / 6) (encE d[q / 6]!) (q % 6) ((encE d[q / 6]!)[q % 6]!) (by rw [List.getElem?_map, Array.getElem?_toList, Array.getElem?_eq_getElem hi, getElem!_pos d _ hi]; rfl) (by
      have : q % 6 < (encE d[q / 6]!).length := by show q % 6 < 6; omega
      rw [List.getElem?_eq_getElem this, getElem!_pos (encE d[q / 6]!) (q % 6) this])
    rw [← List.flatMap_def, show q / 6 * 6 + q % 6 = q by omega] at h3
    rw [h3]
  · rw [List.getElem?_eq_none (l := (Go.Sort.flatK encE 6 d).toList) (by rw [Array.length_toList, Go.Sort.size_flatK]; omega), List.getElem?_eq_none (by rw [hl]; omega)]

theorem shows_own {w : World} {base : Nat} {d : Array Ent} {al : Option Addr} {cl : Nat} (h : w.ownsRow base 29 6 (.slice al d.size cl) d.size (d.toList.flatMap encE)) : Shows w al d.size cl 6 (Go.Sort.flatK encE 6 d).toList := by
  rw [flat_entries]
  obtain ⟨al', cl', e, n1, n2, n3, n4⟩ := slice_form h
  cases e
  refine ⟨?_, n1, fun a ha j u hu => ?_, fun u hu => ?_⟩
  · rw [← flat_entries, Array.length_toList, Go.Sort.size_flatK]
  · obtain ⟨h1, h2⟩ := n4 a ha
    rw [h2]
    exact h.cells h1 j u hu
  · obtain ⟨x, _, hx⟩ := List.mem_flatMap.1 hu
    simp [encE] at hx
    rcases hx with rfl | rfl | rfl | rfl | rfl | rfl <;> rfl

/-- what Record makes of a right record's entries -/
theorem rec_back {n : Int} {s : ByteArray} {l : List Vl} {ks : List ByteArray} (h : rightB (.mk 5 n s l ks) = true) : recC ks l = 0 ∧ Vl.mk 5 n s l ks = .mk 5 0 ⟨#[]⟩ l ks := by
  obtain ⟨⟨rfl, rfl, _⟩, h2, h3, _⟩ := rec_parts h
  unfold recC
  rw [if_pos h2, if_pos h3, if_pos h]
  exact ⟨rfl, rfl⟩

/-- a record's entries as they lie, their keys, their values -/
theorem entries_of {u : World} {n : Int} {s : ByteArray} {l : List Vl} {ks : List ByteArray} {al ak : Option Addr} {cl ck m : Nat} (hv : IsV u u.heap.size (.mk 5 n s l ks) (.agg #[.int .i64 5, .int .i64 n, .string s, .slice al m cl, .slice ak m ck])) (hm : ks.length = m) (hl : l.length = m) :
    ∃ f : Nat → Ent, ∀ i, i < m → ∃ (a a2 : Addr) (y : Vl), al = some a ∧ ak = some a2 ∧ l[i]? = some y ∧ ks[i]? = some (f i).1 ∧ u.cell? (a2.add i) = some (.string (f i).1) ∧ (∀ j v, (valE (f i))[j]? = some v → u.cell? ((a.add (i * 5)).add j) = some v) ∧ IsV u u.heap.size y (.agg (valE (f i)).toArray) := by
  have hex : ∀ i, ∃ e : Ent, i < m → ∃ (a a2 : Addr) (y : Vl), al = some a ∧ ak = some a2 ∧ l[i]? = some y ∧ ks[i]? = some e.1 ∧ u.cell? (a2.add i) = some (.string e.1) ∧ (∀ j v, (valE e)[j]? = some v → u.cell? ((a.add (i * 5)).add j) = some v) ∧ IsV u u.heap.size y (.agg (valE e).toArray) := by
    intro i
    by_cases hi : i < m
    · obtain ⟨y, hy⟩ : ∃ y, l[i]? = some y := ⟨_, List.getElem?_eq_getElem (by omega)⟩
      obtain ⟨tk, htk⟩ : ∃ tk, ks[i]? = some tk := ⟨_, List.getElem?_eq_getElem (by omega)⟩
      have hv' : IsV u u.heap.size (.mk 5 n s l ks) (.agg #[.int .i64 5, .int .i64 n, .string s, .slice al l.length cl, .slice ak ks.length ck]) := by rw [hm, hl]; exact hv
      obtain ⟨a, y0, y1, y2, bl, bk, ll', mm, cl1, ck1, e1, hab, hce, hve⟩ := hv'.elem i y hy
      obtain ⟨a2, e2⟩ : ∃ a2, ak = some a2 := by
        cases ak with
        | none => have h1 := hv'.keys.1.none rfl; omega
        | some a2 => exact ⟨a2, rfl⟩
      have cK := hv'.keys.1.cell a2 e2 i tk htk
      exact ⟨(tk, y0, y1, y2, (bl, ll', cl1), bk, mm, ck1), fun _ => ⟨a, a2, y, e1, e2, hy, htk, cK, hce, hve⟩⟩
    · exact ⟨(⟨#[]⟩, 0, 0, ⟨#[]⟩, (none, 0, 0), none, 0, 0), fun h => absurd h hi⟩
  exact ⟨fun i => Classical.choose (hex i), fun i => Classical.choose_spec (hex i)⟩
end Go.Proofs.Ytcopkhmmpamboaa
