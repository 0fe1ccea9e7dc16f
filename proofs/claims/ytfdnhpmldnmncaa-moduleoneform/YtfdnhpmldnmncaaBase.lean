/-
  The bytes of a number as a list ('encF'), what a slice of bytes holds ('Row8'), and small facts on both; no conditions.
-/
import Derived.Test.YtfdnhpmldnmncaaHid
import Derived.WalkKit
import Derived.WalkSpells
import Derived.OpenShut
namespace Go.Proofs.Ytfdnhpmldnmncaa
open Go.RowKit


/-- the bytes of a number, in at most f + 1 groups -/
def encF : Nat → Int → List Int
  | 0, n => [n]
  | f + 1, n => if n < 128 then [n] else (n % 128 + 128) :: encF f (n / 128)

theorem encF_small (f : Nat) (n : Int) (h : n < 128) : encF f n = [n] := by
  cases f <;> simp [encF, h]

theorem encF_great (f : Nat) (n : Int) (h : ¬ n < 128) : encF (f + 1) n = (n % 128 + 128) :: encF f (n / 128) := by
  simp [encF, h]

theorem encF_len (f : Nat) (n : Int) : 1 ≤ (encF f n).length ∧ (encF f n).length ≤ f + 1 := by
  induction f generalizing n with
  | zero => simp [encF]
  | succ f ih =>
    simp only [encF]
    split
    · simp
    · have := ih (n / 128); simp; omega

/-- a slice of bytes whose elements are zs -/
structure Row8 (w : World) (ao : Option Addr) (len cap : Nat) (zs : List Int) : Prop where
  length : zs.length = len
  none : ao = none → len = 0 ∧ cap = 0
  cells : ∀ ad, ao = some ad → ∀ j u, (zs.map (Value.int .u8))[j]? = some u → w.cell? (ad.add j) = some u
  small : ∀ n ∈ zs, 0 ≤ n ∧ n ≤ 255
  le : len ≤ cap

theorem Row8.later {w w' : World} {ao : Option Addr} {len cap : Nat} {zs : List Int} (h : Row8 w ao len cap zs) (hb : Below w.heap.size w w') : Row8 w' ao len cap zs :=
  ⟨h.length, h.none, fun ad ha j u hj => cell_later hb (h.cells ad ha j u hj), h.small, h.le⟩

theorem Row8.later' {B : Nat} {w w' : World} {ao : Option Addr} {len cap : Nat} {zs : List Int} (h : Row8 w ao len cap zs) (hb : Below B w w') (hB : ∀ ad, ao = some ad → 0 < len → ad.block < B) : Row8 w' ao len cap zs :=
  ⟨h.length, h.none, fun ad ha j u hj => by
    have hl : j < zs.length := by
      have := List.getElem?_eq_some_iff.1 hj
      simpa using this.1
    have hz := h.length
    have hblk : (ad.add j).block = ad.block := by unfold Addr.add; split <;> rfl
    rw [hb.cell (p := ad.add j) (by rw [hblk]; exact hB ad ha (by omega))]
    exact h.cells ad ha j u hj, h.small, h.le⟩

theorem Row8.at {w : World} {ao : Option Addr} {len cap : Nat} {zs : List Int} (h : Row8 w ao len cap zs) (hp : 0 < len) :
    ∃ b off, ao = some ⟨b, off, Option.none⟩ ∧ ∀ j, j < len → w.cell? ⟨b, off + j, Option.none⟩ = some (.int .u8 (zs.getD j 0)) := by
  have hz := h.length
  cases ao with
  | none => have := (h.none rfl).1; omega
  | some ad =>
    have hc : ∀ i, i < zs.length → w.cell? (ad.add i) = some (.int .u8 (zs.getD i 0)) := by
      intro i hi
      refine h.cells ad rfl i _ ?_
      simp [hi]
    obtain ⟨b, off, rfl, hcc⟩ := ints_at hc (by omega)
    exact ⟨b, off, rfl, fun j hj => hcc j (by omega)⟩

theorem Row8.block {w : World} {ao : Option Addr} {len cap : Nat} {zs : List Int} (h : Row8 w ao len cap zs) (ad : Addr) (ha : ao = some ad) (hp : 0 < len) : ad.block < w.heap.size := by
  obtain ⟨b, off, rfl, hc⟩ := h.at hp
  cases ha
  exact World.block_lt_of_cell? _ _ (hc 0 hp)

/-- a row that the call itself owns, as a slice of bytes -/
theorem Row8.own {w : World} {base g n cap : Nat} {zs : List Int} (h : w.ownsRow base 5 1 (.slice (some ⟨g, 0, Option.none⟩) n cap) n (zs.map (Value.int .u8))) (hs : ∀ n ∈ zs, 0 ≤ n ∧ n ≤ 255) :
    Row8 w (some ⟨g, 0, Option.none⟩) n cap zs := by
  have hl : zs.length = n := by simpa using h.1
  refine ⟨hl, (fun e => by cases e), fun ad ha j u hj => ?_, hs, ?_⟩
  · cases ha
    exact h.cells (g := g) rfl j u hj
  · rcases h.2 with ⟨e, _⟩ | ⟨g', cap', cur, e, _, _, hle, _⟩
    · cases e
    · cases e; exact hle

theorem encF_bytes (f : Nat) (n : Int) (h0 : 0 ≤ n) (h : n < 128 ^ f * 128) : ∀ c ∈ encF f n, 0 ≤ c ∧ c ≤ 255 := by
  induction f generalizing n with
  | zero => intro c hc; simp [encF] at hc; simp at h; omega
  | succ f ih =>
    intro c hc
    simp only [encF] at hc
    split at hc
    · simp at hc; omega
    · simp at hc
      rcases hc with rfl | hc
      · omega
      · refine ih (n / 128) (by omega) ?_ c hc
        have : n < 128 * (128 ^ f * 128) := by rw [Int.pow_succ] at h; omega
        omega

theorem encF9_bytes (n : Int) (h0 : 0 ≤ n) (h : n ≤ 18446744073709551615) : ∀ c ∈ encF 9 n, 0 ≤ c ∧ c ≤ 255 :=
  encF_bytes 9 n h0 (by have e : (128 : Int) ^ 9 * 128 = 1180591620717411303424 := by decide
                        omega)

end Go.Proofs.Ytfdnhpmldnmncaa
