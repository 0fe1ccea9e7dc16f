/-
  The walk of Right of a module (layer 9); no conditions but the form's own reach.
  The walks of Encode of a module (layer 9), and of shown: what every program tells; no conditions but the form's own reach.
-/
import Derived.Test.YtpdfggjhedgdlaaA44
namespace Go.Proofs.Ytpdfggjhedgdlaa
open Go.RowKit

set_option maxRecDepth 100000 in
set_option maxHeartbeats 400000 in
theorem rightM_any (m : Md) (a1 a2 a3 : Option Addr) (n1 c1 n2 c2 n3 c3 B : Nat) (w : World) (hn1 : m.cs.length = n1) (hn2 : m.fs.length = n2) (hn3 : m.xs.length = n3) (h : IsM w (fun b => b < B) m a1 c1 a2 c2 a3 c3) (hB : B ≤ w.heap.size) :
    Calls Try.prog 15 #[.agg #[.slice a1 n1 c1, .slice a2 n2 c2, .slice a3 n3 c3]] w fun e w' => e = .returned (.bool (rightM m)) ∧ Below w.heap.size w w' := by
  obtain ⟨g, hg⟩ : ∃ g, w.heap.size = g := ⟨_, rfl⟩
  have BX := BoxN.mk' w #[.slice a1 n1 c1, .slice a2 n2 c2, .slice a3 n3 c3] 26
  obtain ⟨w1, hw1⟩ : ∃ w1, w.alloc (.cells #[.slice a1 n1 c1, .slice a2 n2 c2, .slice a3 n3 c3] 26) = w1 := ⟨_, rfl⟩
  rw [hw1] at BX
  obtain ⟨m0, m1, m2⟩ := row_cell3 (by have := BX.row; rw [hg] at this; exact this)
  have CL := hide (layM_any m a1 a2 a3 n1 c1 n2 c2 n3 c3 B w1 hn1 hn2 hn3 (h.later (BX.below.mono hB)) (by have := BX.size; omega))
  have HB := hide BX
  have HG := hide hg
  generalize rightM m = R at *
  clear BX h hB hn1 hn2 hn3
  go_enter Try.func15, Try.ntmps15
  go_wp2_with fail
  refine (unhide CL).mono ?_
  rintro e u ⟨ao, len, cap, rfl, r1, b1, f1, k1, o1⟩
  have H5 : Hid (Below w.heap.size w u) := hide ((unhide HB).below.trans (b1.mono (by have := (unhide HB).size; omega)))
  clear r1 b1 f1 k1 o1 CL
  go_wp2_with fail
  go_ret
  exact ⟨rfl, by first | exact unhide H5 | (rw [← unhide HG]; exact unhide H5)⟩
end Go.Proofs.Ytpdfggjhedgdlaa

namespace Go.Proofs.Ytpdfggjhedgdlaa
open Go.RowKit

def codeM (m : Md) : Int := if rightM m = true then 0 else 90
def bytesM (m : Md) : List Int := if rightM m = true then encM m else []

set_option maxRecDepth 100000 in
set_option maxHeartbeats 400000 in
theorem encodeM_any (m : Md) (a1 a2 a3 : Option Addr) (n1 c1 n2 c2 n3 c3 B : Nat) (w : World) (hn1 : m.cs.length = n1) (hn2 : m.fs.length = n2) (hn3 : m.xs.length = n3) (h : IsM w (fun b => b < B) m a1 c1 a2 c2 a3 c3) (hB : B ≤ w.heap.size) :
    Calls Try.prog 13 #[.agg #[.slice a1 n1 c1, .slice a2 n2 c2, .slice a3 n3 c3]] w fun e w' => ∃ (ao : Option Addr) (len cap : Nat), e = .returned (.tuple #[.slice ao len cap, .int .i64 (codeM m)]) ∧ Row8 w' ao len cap (bytesM m) ∧ Below w.heap.size w w' ∧ (∀ a, ao = some a → w.heap.size ≤ a.block) ∧ cap ≤ maxLen ∧ (rightM m = true → w'.ownsRow w.heap.size 5 1 (.slice ao len cap) len ((encM m).map (Value.int .u8))) := by
  obtain ⟨g, hg⟩ : ∃ g, w.heap.size = g := ⟨_, rfl⟩
  have BX := BoxN.mk' w #[.slice a1 n1 c1, .slice a2 n2 c2, .slice a3 n3 c3] 26
  obtain ⟨w1, hw1⟩ : ∃ w1, w.alloc (.cells #[.slice a1 n1 c1, .slice a2 n2 c2, .slice a3 n3 c3] 26) = w1 := ⟨_, rfl⟩
  rw [hw1] at BX
  obtain ⟨m0, m1, m2⟩ := row_cell3 (by have := BX.row; rw [hg] at this; exact this)
  have CL := hide (layM_any m a1 a2 a3 n1 c1 n2 c2 n3 c3 B w1 hn1 hn2 hn3 (h.later (BX.below.mono hB)) (by have := BX.size; omega))
  have HB := hide BX
  have HG := hide hg
  unfold codeM bytesM
  clear BX h hB hn1 hn2 hn3
  cases hR : rightM m with
  | false =>
    rw [hR] at CL
    clear hR
    go_enter Try.func13, Try.ntmps13
    go_wp2_with fail
    refine (unhide CL).mono ?_
    rintro e u ⟨ao, len, cap, rfl, r1, b1, f1, k1, o1⟩
    have H5 : Hid (Below w.heap.size w u) := hide ((unhide HB).below.trans (b1.mono (by have := (unhide HB).size; omega)))
    clear r1 b1 f1 k1 o1 CL
    go_wp2_with fail
    go_ret2
    exact ⟨none, 0, 0, rfl, nilRow _, by first | exact unhide H5 | (rw [← unhide HG]; exact unhide H5), (fun a e => by cases e), by unfold maxLen; omega⟩
  | true =>
    rw [hR] at CL
    clear hR
    go_enter Try.func13, Try.ntmps13
    go_wp2_with fail
    refine (unhide CL).mono ?_
    rintro e u ⟨ao, len, cap, rfl, r1, b1, f1, k1, o1⟩
    have H5 : Hid (Below w.heap.size w u ∧ Row8 u ao len cap (encM m) ∧ (∀ a, ao = some a → w.heap.size ≤ a.block) ∧ cap ≤ maxLen ∧ u.ownsRow w.heap.size 5 1 (.slice ao len cap) len ((encM m).map (Value.int .u8))) := hide (by
      have z := (unhide HB).size
      exact ⟨(unhide HB).below.trans (b1.mono (by omega)), r1, fun a ha => by have := f1 a ha; omega, k1, own_low (o1 rfl) (by omega)⟩)
    clear r1 b1 f1 k1 o1 CL
    go_wp2_with fail
    go_ret2
    obtain ⟨x1, x2, x3, x4, x5⟩ := unhide H5
    exact ⟨ao, len, cap, rfl, x2, by first | exact x1 | (rw [← unhide HG]; exact x1), by first | exact x3 | (rw [← unhide HG]; exact x3), x4, by first | exact x5 | (rw [← unhide HG]; exact x5)⟩

/-- a module without anything -/
def md0 : Md := ⟨[], [], []⟩

theorem md0_is (w : World) (P : Nat → Prop) : IsM w P md0 none 0 none 0 none 0 where
  hc := IsP.of (V := fun _ => []) ⟨by omega, by omega, by decide, fun _ => ⟨rfl, rfl⟩, fun _ => ⟨rfl, rfl⟩, Nat.le_refl _, Nat.le_refl _, by simp [md0], by simp, by simp, (fun a h => by cases h), (fun i h => by simp [md0] at h), (fun a h => by cases h), (fun t h => by cases h)⟩ (fun i y h => by simp [md0] at h)
  hf := ⟨fun _ => ⟨rfl, rfl⟩, Nat.le_refl _, by simp [md0], fun a h => by cases h⟩
  hx := ⟨fun _ => ⟨rfl, rfl⟩, Nat.le_refl _, by simp [md0], fun a h => by cases h⟩
  bf := fun f h => by simp [md0] at h
  bx := fun f h => by simp [md0] at h

theorem md0_bytes : encM md0 = [83, 67, 77, 49, 1, 1, 0, 2, 1, 0, 3, 1, 0] := by
  simp [encM, outM, md0, partsM, secM, bodyM, headM]
  decide
theorem md0_right : rightM md0 = true := by
  unfold rightM
  rw [md0_bytes]
  simp [formedB, md0, exsB]

set_option maxRecDepth 100000 in
set_option maxHeartbeats 400000 in
theorem shown_any (w : World) : Calls Try.prog 4 #[] w fun e w' => e = .returned (.bool true) ∧ Below w.heap.size w w' := by
  have CE := hide (encodeM_any md0 none none none 0 0 0 0 0 0 w.heap.size w rfl rfl rfl (md0_is w _) (Nat.le_refl _))
  have hc : codeM md0 = 0 := by unfold codeM; rw [md0_right]; rfl
  have hb : bytesM md0 = [83, 67, 77, 49, 1, 1, 0, 2, 1, 0, 3, 1, 0] := by unfold bytesM; rw [md0_right, md0_bytes]; rfl
  rw [hc, hb] at CE
  clear hc hb
  go_enter Try.func4, Try.ntmps4
  go_wp2_with fail
  refine (unhide CE).mono ?_
  rintro e u ⟨ao, len, cap, rfl, r1, b1, _, _, _⟩
  have h8 : len = 13 := r1.length.symm
  subst h8
  obtain ⟨b, off, rfl, hcc⟩ := r1.at (by omega)
  have CV : Sem.run Try.prog (convert 34 9 (.slice (some ⟨b, off, none⟩) 13 cap)) u = .ok (.string ⟨#[83, 67, 77, 49, 1, 1, 0, 2, 1, 0, 3, 1, 0]⟩) u := by
    have := conv_row (w := u) (len := 13) (zs := [83, 67, 77, 49, 1, 1, 0, 2, 1, 0, 3, 1, 0]) rfl hcc 0 13 cap (by omega) 0
    rw [Nat.add_zero, List.drop_zero] at this
    exact this
  have B1 := hide b1
  clear r1 b1 hcc CE
  go_wp2_with fail
  go_ret
  exact ⟨rfl, unhide B1⟩
end Go.Proofs.Ytpdfggjhedgdlaa
