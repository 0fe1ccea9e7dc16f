/-
  What a Hash in memory has taken, in one piece; New, Copy, Write, Sum said by it; conditions: the package's variables, no more than 2 to the 63 bytes.
-/
import Derived.Test.YtfmbaidpeliakaaDoorH2Sum
import Derived.Test.YtfmbaidpeliakaaDoorBytesOf
namespace Go.Proofs.YtfmbaidpeliakaaDoor
open Go.RowKit

/-- the Hash in block g has taken the bytes m -/
def Has (w : World) (g : Nat) (ks m : List Int) : Prop :=
  ∃ st bf, feed ks S0 m = (st, bf, m.length) ∧ Hsh w g st bf m.length ∧ st.length = 8 ∧ bf.length = 64 ∧ (∀ y ∈ st, 0 ≤ y ∧ y ≤ 4294967295) ∧ ∀ y ∈ bf, 0 ≤ y ∧ y ≤ 255

theorem Has.block {w w' : World} {g : Nat} {ks m : List Int} (h : Has w g ks m) (e : w'.heap[g]? = w.heap[g]?) : Has w' g ks m := by
  obtain ⟨st, bf, h1, h2, h3⟩ := h
  exact ⟨st, bf, h1, e.trans h2, h3⟩

theorem Has.lt {w : World} {g : Nat} {ks m : List Int} (h : Has w g ks m) : g < w.heap.size := by
  obtain ⟨_, _, _, h2, _⟩ := h
  exact (Array.getElem?_eq_some_iff.1 h2).1

theorem Has.below {w w' : World} {g : Nat} {ks m : List Int} (h : Has w g ks m) (hb : Below w.heap.size w w') : Has w' g ks m := h.block (hb.block g h.lt)

/-- the package's variables -/
def Pkg (w : World) (t0 tK : TypeId) (ks : List Int) : Prop := ks.length = 64 ∧ Words w 0 t0 H0 ∧ Words w 1 tK ks

theorem Pkg.lt {w : World} {t0 tK : TypeId} {ks : List Int} (h : Pkg w t0 tK ks) : 1 < w.heap.size := (Array.getElem?_eq_some_iff.1 h.2.2).1

theorem Pkg.later {B : Nat} {w w' : World} {t0 tK : TypeId} {ks : List Int} (h : Pkg w t0 tK ks) (hb : Below B w w') (hB : 1 < B) : Pkg w' t0 tK ks :=
  ⟨h.1, (hb.block 0 (by omega)).trans h.2.1, (hb.block 1 hB).trans h.2.2⟩

theorem new_has {t0 tK : TypeId} {ks : List Int} (w : World) (h : Pkg w t0 tK ks) :
    Calls Tryd.prog 4 #[] w fun e w' => e = .returned (.pointer (some ⟨w.heap.size, 0, none⟩)) ∧ Has w' w.heap.size ks [] ∧ w'.heap.size = w.heap.size + 1 ∧ Below w.heap.size w w' := by
  refine (new_any w h.2.1).mono ?_
  rintro e w' ⟨rfl, M⟩
  exact ⟨rfl, ⟨H0, List.replicate 64 0, rfl, M.at', rfl, rfl, H0_bounds, by intro y hy; rw [List.eq_of_mem_replicate hy]; omega⟩, M.size, M.below⟩

theorem copy_has {ks m : List Int} {g : Nat} (w : World) (h : Has w g ks m) :
    Calls Tryd.prog 10 #[.pointer (some ⟨g, 0, none⟩)] w fun e w' => e = .returned (.pointer (some ⟨w.heap.size, 0, none⟩)) ∧ Has w' w.heap.size ks m ∧ w'.heap.size = w.heap.size + 1 ∧ Below w.heap.size w w' := by
  obtain ⟨st, bf, h1, h2, h3, h4, h5, h6⟩ := h
  refine (copy_any g st bf m.length w h2 h3 h4).mono ?_
  rintro e w' ⟨rfl, M⟩
  exact ⟨rfl, ⟨st, bf, h1, M.at', h3, h4, h5, h6⟩, M.size, M.below⟩

theorem sum_has {t0 tK : TypeId} {ks m : List Int} {g : Nat} (w : World) (h : Has w g ks m) (hp : Pkg w t0 tK ks) (hm : m.length ≤ 9223372036854775807) :
    Calls Tryd.prog 6 #[.pointer (some ⟨g, 0, none⟩)] w fun e w' => e = .returned (.agg ((digM ks m).map (Value.int .u8)).toArray) ∧ Below w.heap.size w w' := by
  obtain ⟨st, bf, h1, h2, h3, h4, h5, h6⟩ := h
  have k := hsum_any g st bf ks m.length w h2 h3 h4 h5 h6 hp.1 hp.2.2 (by omega)
  have e : digM ks m = digS ks (st, bf, m.length) := by unfold digM; rw [h1]
  rw [e]
  exact k

/-- bytes made of a text are written -/
theorem write_has {t0 tK : TypeId} {ks m : List Int} {g : Nat} {T : ByteArray} {cap : Nat} (u w : World) (F : Fresh u w T cap) (h : Has u g ks m) (hp : Pkg u t0 tK ks) (hg : 1 < g) (hm : m.length + T.size ≤ 9223372036854775807) :
    Calls Tryd.prog 9 #[.pointer (some ⟨g, 0, none⟩), .slice (some ⟨u.heap.size, 0, none⟩) T.size cap] w fun e w' => e = .returned (.int .i64 ((m.length + T.size : Nat) : Int)) ∧ Has w' g ks (m ++ txt T) ∧ Keeps u w' g := by
  have hlt := h.lt
  obtain ⟨st, bf, h1, h2, h3, h4, h5, h6⟩ := h.below F.below
  have k := write_any g u.heap.size (some ⟨u.heap.size, 0, none⟩) cap st bf (txt T) ks m.length w h2 h3 h4 h5 h6 (txt_bounds T) hp.1 (hp.later F.below hp.lt).2.2 hg (by rw [txt_len]; exact F.room) (fun _ => ⟨0, rfl, by omega, by rw [F.size]; omega, fun j hj => by rw [Nat.zero_add]; exact F.cells j (by rw [txt_len] at hj; exact hj)⟩) (by rw [txt_len]; omega)
  rw [txt_len] at k
  refine k.mono ?_
  rintro e w' ⟨rfl, st', bf', q1, q2, q3, q4, q5, q6, q7⟩
  refine ⟨by rw [show wrap64 ((m.length + T.size : Nat) : Int) = ((m.length + T.size : Nat) : Int) by unfold wrap64; omega], ⟨st', bf', ?_, ?_, q4, q5, q6, q7⟩, Keeps.trans (Keeps.of_below F.below) q3⟩
  · rw [feed_app, h1, q1, List.length_append, txt_len]
  · rw [List.length_append, txt_len]; exact q2

/-- nothing is written -/
theorem write_none {t0 tK : TypeId} {ks m : List Int} {g : Nat} (w : World) (h : Has w g ks m) (hp : Pkg w t0 tK ks) (hg : 1 < g) (hm : m.length ≤ 9223372036854775807) :
    Calls Tryd.prog 9 #[.pointer (some ⟨g, 0, none⟩), .slice none 0 0] w fun e w' => e = .returned (.int .i64 (m.length : Int)) ∧ Below w.heap.size w w' := by
  have hlt := h.lt
  obtain ⟨st, bf, h1, h2, h3, h4, h5, h6⟩ := h
  have k := write_any g 0 none 0 st bf [] ks m.length w h2 h3 h4 h5 h6 (fun y hy => by cases hy) hp.1 hp.2.2 hg (Nat.le_refl _) (fun h => absurd h (by simp)) (by simp; omega)
  refine k.mono ?_
  rintro e w' ⟨rfl, st', bf', q1, q2, q3, q4, q5, q6, q7⟩
  refine ⟨?_, ?_⟩
  · have : wrap64 ((m.length + ([] : List Int).length : Nat) : Int) = (m.length : Int) := by unfold wrap64; simp; omega
    rw [this]
  · rw [feed_nil] at q1
    cases q1
    refine ⟨q3.zero.os, q3.zero.tape, q3.zero.output, q3.zero.size, fun k hk => ?_⟩
    by_cases hkg : k = g
    · subst hkg
      exact Eq.trans q2 h2.symm
    · exact q3.other k hk hkg

end Go.Proofs.YtfmbaidpeliakaaDoor
