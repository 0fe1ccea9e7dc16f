/-
  The walks of PutUint, PutInt behind no bytes, and small facts on texts made of bytes; no conditions.
-/
import Derived.Test.YtfdnhpmldnmncaaPuts
import Derived.Laws.BytesArg
import Derived.Deep.QuietTactic
import Derived.BigQuiet
import Derived.WalkSmall
namespace Go.Proofs.Ytfdnhpmldnmncaa
open Go.RowKit

theorem nilRow (w : World) : Row8 w none 0 0 [] := ⟨rfl, fun _ => ⟨rfl, rfl⟩, (fun ad h => by cases h), (fun n h => by cases h), Nat.le_refl _⟩

theorem putUint_nil (n : Int) (w : World) (h0 : 0 ≤ n) (h1 : n ≤ 18446744073709551615) :
    Calls Try.prog 30 #[.slice none 0 0, .int .u64 n] w fun e w' => e = .returned (.slice (some ⟨w.heap.size, 0, none⟩) (encF 9 n).length 10) ∧
      Row8 w' (some ⟨w.heap.size, 0, none⟩) (encF 9 n).length 10 (encF 9 n) ∧ Below w.heap.size w w' := by
  refine (putUint_any none 0 0 n [] w (nilRow w) (by decide) h0 h1).mono ?_
  rintro e w' ⟨rfl, hown, hb⟩
  simp only [Nat.zero_add, List.nil_append] at *
  exact ⟨trivial, Row8.own hown (encF9_bytes n h0 h1), hb⟩

theorem putInt_nil (n : Int) (w : World) (h0 : -9223372036854775808 ≤ n) (h1 : n ≤ 9223372036854775807) :
    Calls Try.prog 81 #[.slice none 0 0, .int .i64 n] w fun e w' => e = .returned (.slice (some ⟨w.heap.size, 0, none⟩) (encF 9 (foldI n)).length 10) ∧
      Row8 w' (some ⟨w.heap.size, 0, none⟩) (encF 9 (foldI n)).length 10 (encF 9 (foldI n)) ∧ Below w.heap.size w w' := by
  have f0 : 0 ≤ foldI n := by unfold foldI; split <;> omega
  have f1 : foldI n ≤ 18446744073709551615 := by unfold foldI; split <;> omega
  refine (putInt_any none 0 0 n [] w (nilRow w) (by decide) h0 h1).mono ?_
  rintro e w' ⟨rfl, hown, hb⟩
  simp only [Nat.zero_add, List.nil_append] at *
  exact ⟨trivial, Row8.own hown (encF9_bytes _ f0 f1), hb⟩

/-- string(b[i:j]) -/
theorem conv_row {w : World} {b off : Nat} {len : Nat} {zs : List Int} (hz : zs.length = len) (hc : ∀ j, j < len → w.cell? ⟨b, off + j, none⟩ = some (.int .u8 (zs.getD j 0))) (i n cap : Nat) (hi : i + n ≤ len) :
    ∀ q, Sem.run Try.prog (convert 22 9 (.slice (some ⟨b, off + i, none⟩) n cap)) (w.drewN q) = .ok (.string (strOfNums ((zs.drop i).take n))) (w.drewN q) := by
  intro q
  refine run_convert_bytes_arg (P := Try.prog) (w.drewN q) 22 5 Try.underlying22 Try.underlying5 b (off + i) n cap _ (by simp; omega) ?_ 9 Try.underlying9
  intro j hj
  have h := hc (i + j) (by omega)
  rw [← Nat.add_assoc] at h
  have e : ((zs.drop i).take n).getD j 0 = zs.getD (i + j) 0 := by simp [List.getD, List.getElem?_drop, hj]
  rw [e]
  simpa using h

theorem str_inj (xs ys : List Int) (hx : ∀ n ∈ xs, 0 ≤ n ∧ n ≤ 255) (hy : ∀ n ∈ ys, 0 ≤ n ∧ n ≤ 255) (h : strOfNums xs = strOfNums ys) : xs = ys := by
  have e := congrArg (fun s : ByteArray => s.data.toList.map fun c => (c.toNat : Int)) h
  simp only [strOfNums_data, List.map_map] at e
  have key : ∀ zs : List Int, (∀ n ∈ zs, 0 ≤ n ∧ n ≤ 255) → zs.map ((fun c : UInt8 => (c.toNat : Int)) ∘ fun n => UInt8.ofNat n.toNat) = zs := by
    intro zs hz
    conv => rhs; rw [← List.map_id zs]
    apply List.map_congr_left
    intro n hn
    have := hz n hn
    simp
    omega
  rw [key xs hx, key ys hy] at e
  exact e

/-- Go's == of two texts -/
theorem str_beq (a b : ByteArray) : (a.toList == b.toList) = true ↔ a = b := by
  rw [beq_iff_eq, ByteArray.toList_eq, ByteArray.toList_eq]
  exact ⟨Go.WideShapes.bytes_inj, fun h => by rw [h]⟩

theorem encF_prefix (f : Nat) (n m : Int) (h : (encF f m).take (encF f n).length = encF f n) : n = m := by
  induction f generalizing n m with
  | zero => simp [encF] at h; omega
  | succ f ih =>
    simp only [encF] at h
    by_cases hn : n < 128
    · by_cases hm : m < 128
      · simp [hn, hm] at h; omega
      · simp [hn, hm] at h; omega
    · by_cases hm : m < 128
      · simp [hn, hm] at h; omega
      · simp only [hn, hm, if_false, List.length_cons, List.take_succ_cons, List.cons.injEq] at h
        have := ih (n / 128) (m / 128) h.2
        omega
end Go.Proofs.Ytfdnhpmldnmncaa
