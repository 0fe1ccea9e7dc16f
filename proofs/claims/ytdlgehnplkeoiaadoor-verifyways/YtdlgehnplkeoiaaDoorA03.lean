/-
  The walks of measure, Right, Weight, Depth: a value's weight and depth, 0 of what is not right; no conditions but the form's own reach.
  The bytes of a number as a list ('encF'), what a slice of bytes holds ('Row8'), and small facts on both; no conditions.
-/
import Derived.Test.YtdlgehnplkeoiaaDoorA02
import Derived.Laws.ResultCell
import Derived.Laws.EntriesVeiled
import Derived.Test.YtdlgehnplkeoiaaDoorA00
import Derived.WalkKit
import Derived.WalkSpells
import Derived.OpenShut
set_option linter.unusedVariables false
set_option linter.unusedSimpArgs false
namespace Go.Proofs.YtdlgehnplkeoiaaDoor
open Go.RowKit

/-- is it right? -/
def rightB (v : Vl) : Bool := okB 8 v && decide (wt v ≤ 2048)
def wt0 (v : Vl) : Nat := if rightB v then wt v else 0
def dep0 (v : Vl) : Nat := if rightB v then dep v else 0

theorem dep_pos (v : Vl) : 1 ≤ dep v := by cases v; simp [dep]

theorem ret_cells {fn : Func} {p q : Tmp} (h : fn.results = #[.cell p 3, .cell q 3]) (tmps : Array Value) (w : World) (gp gq : Nat) (x y : Int) (hp : tmps.getD p undef = .pointer (some ⟨gp, 0, none⟩)) (hq : tmps.getD q undef = .pointer (some ⟨gq, 0, none⟩))
    (hx : w.cell? ⟨gp, 0, none⟩ = some (.int .i64 x)) (hy : w.cell? ⟨gq, 0, none⟩ = some (.int .i64 y)) : (results fn tmps).run Tryd.prog w = .ok (.tuple #[.int .i64 x, .int .i64 y]) w := by
  have hp' : tmps[p]?.getD undef = .pointer (some ⟨gp, 0, none⟩) := by simpa using hp
  have hq' : tmps[q]?.getD undef = .pointer (some ⟨gq, 0, none⟩) := by simpa using hq
  simp only [results, h]
  go_simp

set_option maxRecDepth 100000 in
set_option maxHeartbeats 400000 in
theorem measure_any (v : Vl) (x : Value) (B : Nat) (w : World) (hv : IsV w B v x) (hBs : B ≤ w.heap.size) :
    Calls Tryd.prog 58 #[x] w fun e w' => e = .returned (.tuple #[.int .i64 (wt0 v : Int), .int .i64 (dep0 v : Int)]) ∧ Below w.heap.size w w' := by
  obtain ⟨k', n', s', l', ks', al', ak', cl', ck', hy', hx⟩ := hv.shape
  obtain ⟨ll, hll⟩ : ∃ ll, l'.length = ll := ⟨_, rfl⟩
  obtain ⟨m, hm⟩ : ∃ m, ks'.length = m := ⟨_, rfl⟩
  rw [hll, hm] at hx
  subst hx
  obtain ⟨w1, hw1⟩ : ∃ w1, w.alloc (.cells #[.int .i64 k', .int .i64 n', .string s', .slice al' ll cl', .slice ak' m ck'] 51) = w1 := ⟨_, rfl⟩
  have BX := Box.mk' w (.int .i64 k') (.int .i64 n') (.string s') (.slice al' ll cl') (.slice ak' m ck')
  rw [hw1] at BX
  obtain ⟨g, hg⟩ : ∃ g, w.heap.size = g := ⟨_, rfl⟩
  have z1 := BX.size
  rw [hg] at z1
  obtain ⟨w2, hw2⟩ : ∃ w2, w1.alloc (.cells #[.int .i64 0] 3) = w2 := ⟨_, rfl⟩
  obtain ⟨w3, hw3⟩ : ∃ w3, w2.alloc (.cells #[.int .i64 0] 3) = w3 := ⟨_, rfl⟩
  obtain ⟨w4, hw4⟩ : ∃ w4, w3.alloc (.cells #[.nilFunc] 124) = w4 := ⟨_, rfl⟩
  have z2 : w2.heap.size = g + 2 := by rw [← hw2]; simp [z1]
  have z3 : w3.heap.size = g + 3 := by rw [← hw3]; simp [z2]
  have z4 : w4.heap.size = g + 4 := by rw [← hw4]; simp [z3]
  have b12 : Below w1.heap.size w1 w2 := by rw [← hw2]; exact (Below.refl _ _).alloc (Nat.le_refl _) _
  have b23 : Below w2.heap.size w2 w3 := by rw [← hw3]; exact (Below.refl _ _).alloc (Nat.le_refl _) _
  have b34 : Below w3.heap.size w3 w4 := by rw [← hw4]; exact (Below.refl _ _).alloc (Nat.le_refl _) _
  have r2 : w2.heap[g + 1]? = some (.cells #[.int .i64 0] 3 (0, 0)) := by rw [← hw2, ← z1]; exact heap_alloc_new w1 _
  have r3 : w3.heap[g + 2]? = some (.cells #[.int .i64 0] 3 (0, 0)) := by rw [← hw3, ← z2]; exact heap_alloc_new w2 _
  have r4 : w4.heap[g + 3]? = some (.cells #[.nilFunc] 124 (0, 0)) := by rw [← hw4, ← z3]; exact heap_alloc_new w3 _
  obtain ⟨w5, hw5⟩ : ∃ w5, w4.setCell ⟨g + 3, 0, none⟩ (.func (.func 72) #[] #[.pointer (some ⟨g + 2, 0, none⟩), .pointer (some ⟨g + 1, 0, none⟩), .pointer (some ⟨g + 3, 0, none⟩)]) = w5 := ⟨_, rfl⟩
  have z5 : w5.heap.size = g + 4 := by rw [← hw5]; simp [z4]
  have S5 : St w5 (g + 2) (g + 1) (g + 3) ((0 : Nat) : Int) ((0 : Nat) : Int) := by
    refine ⟨?_, ?_, ?_⟩
    · rw [← hw5, heap_setCell_other _ _ _ _ (by simp), b34.block _ (by omega)]; exact r3
    · rw [← hw5, heap_setCell_other _ _ _ _ (by simp), b34.block _ (by omega), b23.block _ (by omega)]; exact r2
    · rw [← hw5, heap_setCell_same w4 (g + 3) 0 _ _ _ r4]; rfl
  have P5 : Pl w5 g (g + 2) (g + 1) (g + 3) := ⟨by omega, by omega, by omega, by omega, by omega, by omega, by omega, by omega, by omega⟩
  have X5 : Below g w w5 := by
    have h := ((BX.below.trans (b12.mono (by omega))).trans (b23.mono (by omega))).trans (b34.mono (by omega))
    rw [hg] at h
    rw [← hw5]
    exact h.setCell (p := ⟨g + 3, 0, none⟩) (by show g ≤ g + 3; omega) _
  have R5 : w5.heap[g]? = some (.cells #[.int .i64 k', .int .i64 n', .string s', .slice al' ll cl', .slice ak' m ck'] 51 (0, 0)) := by
    rw [← hw5, heap_setCell_other _ _ _ _ (by simp), b34.block _ (by omega), b23.block _ (by omega), b12.block _ (by omega), ← hg]
    exact BX.row
  have q4 : w4.cell? ⟨g + 3, 0, none⟩ = some .nilFunc := (one_cell r4).1
  have f4 : w4.frozen? ⟨g + 3, 0, none⟩ = false := (one_cell r4).2
  have qr : w5.cell? ⟨g + 3, 0, none⟩ = some (.func (.func 72) #[] #[.pointer (some ⟨g + 2, 0, none⟩), .pointer (some ⟨g + 1, 0, none⟩), .pointer (some ⟨g + 3, 0, none⟩)]) := (one_cell S5.fn).1
  obtain ⟨c0, c1, c2, c3, c4⟩ := row_cell R5
  have CI := hide (right_any 8 v _ 1 0 0 g (g + 2) (g + 1) (g + 3) w5 (by omega) (by omega) ((hv.lift (by omega)).mono X5) (by omega) P5 S5 (by omega))
  have H := hide (And.intro P5 (And.intro X5 hy'))
  clear BX b12 b23 b34 r2 r3 r4 S5 P5 X5 R5 hv hy'
  rw [hg]
  simp only [Nat.zero_add] at CI
  obtain ⟨R, hR⟩ : ∃ R, (okB 8 v && decide (wt v ≤ 2048)) = R := ⟨_, rfl⟩
  rw [hR] at CI
  have HR := hide hR
  clear hR
  go_enter Tryd.func58, Tryd.ntmps58
  go_wp2_with fail
  refine (unhide CI).mono ?_
  rintro e w6 ⟨d', s', rfl, s6, b6, hok⟩
  have S6 := hide s6
  have X6 : Hid (Below g w w6) := hide ((unhide H).2.1.trans b6)
  have P6 : Hid (Pl w6 g (g + 2) (g + 1) (g + 3)) := hide ((unhide H).1.later b6.size)
  have HO := hide hok
  obtain ⟨qd, fd⟩ := one_cell s6.dep
  obtain ⟨qw, fw⟩ := one_cell s6.wgt
  clear s6 b6 hok CI c0 c1 c2 c3 c4 qr q4 f4 hw1 hw2 hw3 hw4 hw5
  cases R with
  | false =>
    have S7 := hide (((unhide S6).setW (unhide P6) 0).setD ((unhide P6).later (by simp)) 0)
    have X7 := hide (((unhide X6).setCell (p := ⟨g + 1, 0, none⟩) (by show g ≤ g + 1; omega) (.int .i64 0)).setCell (p := ⟨g + 2, 0, none⟩) (by show g ≤ g + 2; omega) (.int .i64 0))
    have hr : rightB v = false := unhide HR
    have HZ : Hid (wt0 v = 0 ∧ dep0 v = 0) := hide (by unfold wt0 dep0; rw [hr]; exact ⟨rfl, rfl⟩)
    clear hr
    go_wp2_with fail
    refine bodyPost_ret (ret_cells rfl _ _ (g + 1) (g + 2) 0 0 rfl rfl (one_cell (unhide S7).wgt).1 (one_cell (unhide S7).dep).1) rfl ⟨by rw [(unhide HZ).1, (unhide HZ).2]; rfl, unhide X7⟩
  | true =>
    obtain ⟨es, ed⟩ := unhide HO rfl
    subst es
    subst ed
    go_wp2_with fail
    go_region
    have hr : rightB v = true := unhide HR
    have HZ : Hid (wt0 v = wt v ∧ dep0 v = dep v) := hide (by unfold wt0 dep0; rw [hr]; exact ⟨rfl, rfl⟩)
    obtain ⟨W, hW⟩ : ∃ W : Nat, wt v = W := ⟨_, rfl⟩
    obtain ⟨D, hD⟩ : ∃ D : Nat, dep v = D := ⟨_, rfl⟩
    rw [hW, hD] at HZ
    rw [hW, hD]
    have S7 := hide (((unhide S6).setW (unhide P6) (W : Int)).setD ((unhide P6).later (by simp)) (D : Int))
    have X7 := hide ((((unhide X6).setCell (p := ⟨g + 1, 0, none⟩) (by show g ≤ g + 1; omega) (.int .i64 (W : Int))).setCell (p := ⟨g + 2, 0, none⟩) (by show g ≤ g + 2; omega) (.int .i64 (D : Int))).drew)
    clear hr HO S6
    go_wp2_with fail
    refine bodyPost_ret (ret_cells rfl _ _ (g + 1) (g + 2) (W : Int) (D : Int) rfl rfl (one_cell (unhide S7).wgt).1 (one_cell (unhide S7).dep).1) rfl ⟨by rw [(unhide HZ).1, (unhide HZ).2], unhide X7⟩
end Go.Proofs.YtdlgehnplkeoiaaDoor

namespace Go.Proofs.YtdlgehnplkeoiaaDoor
open Go.RowKit


/-- the bytes of a number, in at most f + 1 groups -/
def encF : Nat → Int → List Int
  | 0, n => [n]
  | f + 1, n => if n < 128 then [n] else (n % 128 + 128) :: encF f (n / 128)

theorem encF_small (f : Nat) (n : Int) (h : n < 128) : encF f n = [n] := by
  cases f <;> simp [encF, h]

theorem encF_great (f : Nat) (n : Int) (h : ¬ n < 128) : encF (f + 1) n = (n % 128 + 128) :: encF f (n / 128) := by
  simp [encF, h]

theorem encF_len (f : Nat) (n : Int) : 1 ≤ (encF f n).length ∧ (encF f n).length ≤ f + 1 := by
  induction f generalizing n with
  | zero => simp [encF]
  | succ f ih =>
    simp only [encF]
    split
    · simp
    · have := ih (n / 128); simp; omega

/-- a slice of bytes whose elements are zs -/
structure Row8 (w : World) (ao : Option Addr) (len cap : Nat) (zs : List Int) : Prop where
  length : zs.length = len
  none : ao = none → len = 0 ∧ cap = 0
  cells : ∀ ad, ao = some ad → ∀ j u, (zs.map (Value.int .u8))[j]? = some u → w.cell? (ad.add j) = some u
  small : ∀ n ∈ zs, 0 ≤ n ∧ n ≤ 255
  le : len ≤ cap

theorem Row8.later {w w' : World} {ao : Option Addr} {len cap : Nat} {zs : List Int} (h : Row8 w ao len cap zs) (hb : Below w.heap.size w w') : Row8 w' ao len cap zs :=
  ⟨h.length, h.none, fun ad ha j u hj => cell_later hb (h.cells ad ha j u hj), h.small, h.le⟩

theorem Row8.later' {B : Nat} {w w' : World} {ao : Option Addr} {len cap : Nat} {zs : List Int} (h : Row8 w ao len cap zs) (hb : Below B w w') (hB : ∀ ad, ao = some ad → 0 < len → ad.block < B) : Row8 w' ao len cap zs :=
  ⟨h.length, h.none, fun ad ha j u hj => by
    have hl : j < zs.length := by
      have := List.getElem?_eq_some_iff.1 hj
      simpa using this.1
    have hz := h.length
    have hblk : (ad.add j).block = ad.block := by unfold Addr.add; split <;> rfl
    rw [hb.cell (p := ad.add j) (by rw [hblk]; exact hB ad ha (by omega))]
    exact h.cells ad ha j u hj, h.small, h.le⟩

theorem Row8.at {w : World} {ao : Option Addr} {len cap : Nat} {zs : List Int} (h : Row8 w ao len cap zs) (hp : 0 < len) :
    ∃ b off, ao = some ⟨b, off, Option.none⟩ ∧ ∀ j, j < len → w.cell? ⟨b, off + j, Option.none⟩ = some (.int .u8 (zs.getD j 0)) := by
  have hz := h.length
  cases ao with
  | none => have := (h.none rfl).1; omega
  | some ad =>
    have hc : ∀ i, i < zs.length → w.cell? (ad.add i) = some (.int .u8 (zs.getD i 0)) := by
      intro i hi
      refine h.cells ad rfl i _ ?_
      simp [hi]
    obtain ⟨b, off, rfl, hcc⟩ := ints_at hc (by omega)
    exact ⟨b, off, rfl, fun j hj => hcc j (by omega)⟩

theorem Row8.block {w : World} {ao : Option Addr} {len cap : Nat} {zs : List Int} (h : Row8 w ao len cap zs) (ad : Addr) (ha : ao = some ad) (hp : 0 < len) : ad.block < w.heap.size := by
  obtain ⟨b, off, rfl, hc⟩ := h.at hp
  cases ha
  exact World.block_lt_of_cell? _ _ (hc 0 hp)

/-- a row that the call itself owns, as a slice of bytes -/
theorem Row8.own {w : World} {base g n cap : Nat} {zs : List Int} (h : w.ownsRow base 5 1 (.slice (some ⟨g, 0, Option.none⟩) n cap) n (zs.map (Value.int .u8))) (hs : ∀ n ∈ zs, 0 ≤ n ∧ n ≤ 255) :
    Row8 w (some ⟨g, 0, Option.none⟩) n cap zs := by
  have hl : zs.length = n := by simpa using h.1
  refine ⟨hl, (fun e => by cases e), fun ad ha j u hj => ?_, hs, ?_⟩
  · cases ha
    exact h.cells (g := g) rfl j u hj
  · rcases h.2 with ⟨e, _⟩ | ⟨g', cap', cur, e, _, _, hle, _⟩
    · cases e
    · cases e; exact hle

theorem encF_bytes (f : Nat) (n : Int) (h0 : 0 ≤ n) (h : n < 128 ^ f * 128) : ∀ c ∈ encF f n, 0 ≤ c ∧ c ≤ 255 := by
  induction f generalizing n with
  | zero => intro c hc; simp [encF] at hc; simp at h; omega
  | succ f ih =>
    intro c hc
    simp only [encF] at hc
    split at hc
    · simp at hc; omega
    · simp at hc
      rcases hc with rfl | hc
      · omega
      · refine ih (n / 128) (by omega) ?_ c hc
        have : n < 128 * (128 ^ f * 128) := by rw [Int.pow_succ] at h; omega
        omega

theorem encF9_bytes (n : Int) (h0 : 0 ≤ n) (h : n ≤ 18446744073709551615) : ∀ c ∈ encF 9 n, 0 ≤ c ∧ c ≤ 255 :=
  encF_bytes 9 n h0 (by have e : (128 : Int) ^ 9 * 128 = 1180591620717411303424 := by decide
                        omega)

end Go.Proofs.YtdlgehnplkeoiaaDoor
