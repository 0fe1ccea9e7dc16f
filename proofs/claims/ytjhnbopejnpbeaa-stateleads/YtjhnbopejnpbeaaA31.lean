/-
  What every program tells of states; no conditions.
-/
import Derived.Test.YtjhnbopejnpbeaaA30
set_option linter.unusedVariables false
set_option linter.unusedSimpArgs false
namespace Go.Proofs.Ytjhnbopejnpbeaa
open Go.RowKit
set_option linter.unusedVariables false

theorem e0sE : (⟨#[]⟩ : ByteArray).size = 0 := rfl

theorem six_cells {w : World} {gv : Nat} {x0 x1 x2 x3 x4 x5 : Value} {E : TypeId} (h : w.heap[gv]? = some (.cells #[x0, x1, x2, x3, x4, x5] E (0, 0))) : ∀ j u, [x0, x1, x2, x3, x4, x5][j]? = some u → w.cell? ((⟨gv, 0, none⟩ : Addr).add j) = some u := by
  intro j u hj
  have hadd : (⟨gv, 0, none⟩ : Addr).add j = ⟨gv, j, none⟩ := by unfold Addr.add; split <;> simp_all
  rw [hadd, cell_of_row w gv j _ _ (0, 0) h, ← hj]
  simp

def es0 : List En := [(⟨#[98]⟩, .mk 1 1 ⟨#[]⟩ [] [])]

theorem size98 : (⟨#[98]⟩ : ByteArray).size = 1 := rfl
theorem es0_right : rightE es0 = true := by
  simp [rightE, es0, keysE, stepsE, entB, rightB, okB, okL, formB, formM, wt, wtL, keysW, entsW, entW, wt0, size98, e0sE]
theorem es0_bytes : encS es0 = [83, 83, 84, 49, 1, 1, 98, 2] := by
  simp [encS, es0, encEs, encE, headE, tx, wenc1, size98, nums]
  decide

/-- a value without lists lies in any memory -/
theorem plain_valS (w : World) (P : Nat → Prop) (k n : Int) (s : ByteArray) (bk : 0 ≤ k ∧ k ≤ 5) (bn : -9223372036854775808 ≤ n ∧ n ≤ 9223372036854775807) (bs : s.size ≤ 2048) :
    IsP w P (.mk k n s [] []) (.agg #[.int .i64 k, .int .i64 n, .string s, .slice none 0 0, .slice none 0 0]) := by
  have h := heap_alloc_new w (.cells #[.int .i64 k, .int .i64 n, .string s, .slice none 0 0, .slice none 0 0] 34)
  have hs : (w.alloc (.cells #[.int .i64 k, .int .i64 n, .string s, .slice none 0 0, .slice none 0 0] 34)).heap.size = w.heap.size + 1 := by simp
  generalize w.alloc (.cells #[.int .i64 k, .int .i64 n, .string s, .slice none 0 0, .slice none 0 0] 34) = u at h hs
  have M : Mid u (w.heap.size + 1) w.heap.size k n s [] [] (.slice none 0 0) (.slice none 0 0) 0 0 (fun _ => []) := ⟨h, by omega, by omega, World.ownsRow_nil _ _ _ _, World.ownsRow_nil _ _ _ _, Or.inl rfl, fun c h => by omega, fun c y h => by omega⟩
  exact (M.made rfl rfl (by omega) bn (by omega) (by simp) (by simp) (by simp)).1.to (fun b hb => by omega) (fun b hb => by omega)


theorem es0_is (w : World) (g : Nat) (h : w.heap[g]? = some (.cells #[.string ⟨#[98]⟩, .int .i64 1, .int .i64 1, .string ⟨#[]⟩, .slice none 0 0, .slice none 0 0] 48 (0, 0))) : IsE w (fun b => b < w.heap.size) es0 (some ⟨g, 0, none⟩) 1 := by
  refine ⟨fun _ => [.int .i64 1, .int .i64 1, .string ⟨#[]⟩, .slice none 0 0, .slice none 0 0], (fun e => by cases e), Nat.le_refl _, by simp [es0], ?_, ?_, ?_⟩
  · intro a ha i e he
    cases ha
    have hi : i = 0 := by have := (List.getElem?_eq_some_iff.1 he).1; simp [es0] at this; exact this
    subst hi
    simp [es0] at he
    subst he
    exact ⟨lt_of_row h, fun j v hv => six_cells h j v hv⟩
  · intro e he
    simp [es0] at he
    subst he
    rw [size98]
    omega
  · intro i e he
    have hi : i = 0 := by have := (List.getElem?_eq_some_iff.1 he).1; simp [es0] at this; exact this
    subst hi
    simp [es0] at he
    subst he
    exact ⟨rfl, plain_valS w _ 1 1 ⟨#[]⟩ (by omega) (by omega) (by rw [e0sE]; omega)⟩

set_option maxRecDepth 100000 in
set_option maxHeartbeats 400000 in
theorem shown_any (w : World) : Calls Try.prog 6 #[] w fun e w' => e = .returned (.bool true) ∧ Below w.heap.size w w' := by
  have BX := Box6.mk' w (.string ⟨#[98]⟩) (.int .i64 1) (.int .i64 1) (.string ⟨#[]⟩) (.slice none 0 0) (.slice none 0 0)
  obtain ⟨g, hg⟩ : ∃ g, w.heap.size = g := ⟨_, rfl⟩
  obtain ⟨w1, hw1⟩ : ∃ w1, w.alloc (.cells #[.string ⟨#[98]⟩, .int .i64 1, .int .i64 1, .string ⟨#[]⟩, .slice none 0 0, .slice none 0 0] 48) = w1 := ⟨_, rfl⟩
  rw [hw1] at BX
  have CE := hide (encodeS_any es0 (some ⟨g, 0, none⟩) 1 1 w1.heap.size w1 rfl (es0_is w1 g (by rw [← hg]; exact BX.row)) (Nat.le_refl _))
  have hc : codeS es0 = 0 := by unfold codeS; rw [es0_right]; rfl
  have hb : bytesS es0 = [83, 83, 84, 49, 1, 1, 98, 2] := by unfold bytesS; rw [es0_right, es0_bytes]; rfl
  rw [hc, hb] at CE
  have HB := hide BX
  clear hc hb BX
  go_enter Try.func6, Try.ntmps6
  go_wp2_with fail
  refine (unhide CE).mono ?_
  rintro e u ⟨ao, len, cap, rfl, r1, b1, _, _⟩
  have h8 : len = 8 := r1.length.symm
  subst h8
  obtain ⟨b, off, rfl, hcc⟩ := r1.at (by omega)
  have CV : Sem.run Try.prog (convert 44 9 (.slice (some ⟨b, off, none⟩) 8 cap)) u = .ok (.string ⟨#[83, 83, 84, 49, 1, 1, 98, 2]⟩) u := by
    have := conv_row (w := u) (len := 8) (zs := [83, 83, 84, 49, 1, 1, 98, 2]) rfl hcc 0 8 cap (by omega) 0
    rw [Nat.add_zero, List.drop_zero] at this
    exact this
  have B1 := hide ((unhide HB).below.trans (b1.mono (by have := (unhide HB).size; omega)))
  clear r1 b1 hcc CE HB
  go_wp2_with fail
  go_ret
  exact ⟨rfl, unhide B1⟩
end Go.Proofs.Ytjhnbopejnpbeaa
