/-
  The walk of copied: a value in new memory, if it has few parts; conditions: the form's own reach.
  The walk of the statements' pick: which of n things a number speaks of; no conditions.
  What is done, as it lies in memory, one Op behind the other; no conditions.
-/
import Derived.Test.YtdaooapfokhfcaaA34
import Derived.Test.YtdaooapfokhfcaaA20
import Derived.Test.YtdaooapfokhfcaaProg
import Derived.WalkKit
import Derived.WalkSpells
import Derived.OpenShut
import Derived.Test.YtdaooapfokhfcaaA00
import Derived.Test.YtdaooapfokhfcaaA04
namespace Go.Proofs.Ytdaooapfokhfcaa
open Go.RowKit

set_option maxRecDepth 100000 in
set_option maxHeartbeats 400000 in
theorem copied_two (v : Vl) (x : Value) (B : Nat) (w : World) (hv : IsV w B v x) (hBs : B ≤ w.heap.size) :
    Calls Try.prog 34 #[x] w fun e w' => ∃ x', e = .returned x' ∧ IsV w' w'.heap.size v x' ∧ Below w.heap.size w w' ∧ (fewB v = true → IsQ w' (fun b => w.heap.size ≤ b ∧ b < w'.heap.size) v x') ∧ (fewB v = false → x' = x) := by
  obtain ⟨k, n, s, l, ks, al, ak, cl, ck, hvv, hx⟩ := hv.shape
  clear hvv
  obtain ⟨m, hm⟩ : ∃ m, ks.length = m := ⟨_, rfl⟩
  obtain ⟨ln, hln⟩ : ∃ ln, l.length = ln := ⟨_, rfl⟩
  rw [hm, hln] at hx
  subst hx
  have TW := Two.mk' w 30 #[.int .i64 k, .int .i64 n, .string s, .slice al ln cl, .slice ak m ck] #[.int .i64 0, .int .i64 0, .string ⟨#[]⟩, .slice none 0 0, .slice none 0 0]
  obtain ⟨w2, hw2⟩ : ∃ w2, (w.alloc (.cells #[.int .i64 k, .int .i64 n, .string s, .slice al ln cl, .slice ak m ck] 30)).alloc (.cells #[.int .i64 0, .int .i64 0, .string ⟨#[]⟩, .slice none 0 0, .slice none 0 0] 30) = w2 := ⟨_, rfl⟩
  rw [hw2] at TW
  obtain ⟨g, hg⟩ : ∃ g, w.heap.size = g := ⟨_, rfl⟩
  rw [hg] at TW
  have HT : Hid (∀ u, Below w2.heap.size w2 u → u.heap[g]? = some (.cells #[.int .i64 k, .int .i64 n, .string s, .slice al ln cl, .slice ak m ck] 30 (0, 0)) ∧ u.heap[g + 1]? = some (.cells #[.int .i64 0, .int .i64 0, .string ⟨#[]⟩, .slice none 0 0, .slice none 0 0] 30 (0, 0)) ∧ IsV u B v (.agg #[.int .i64 k, .int .i64 n, .string s, .slice al ln cl, .slice ak m ck]) ∧ B ≤ u.heap.size ∧ Below w.heap.size w u ∧ g + 2 ≤ u.heap.size) :=
    hide (fun u hu => by
      have h1 : Below w.heap.size w u := TW.below.trans (hu.mono (by have := TW.size; omega))
      have h2 := TW.size
      have h3 := hu.size
      exact ⟨(TW.later hu).1, (TW.later hu).2, hv.mono (h1.mono hBs), by omega, h1, by omega⟩)
  obtain ⟨c0, c1, c2, c3, c4⟩ := row_cell TW.at0
  have CF := hide (few_any v _ B w2 (unhide HT w2 (Below.refl _ _)).2.2.1 (unhide HT w2 (Below.refl _ _)).2.2.2.1)
  clear TW hv hm hln
  cases hF : fewB v with
  | false =>
    rw [hF] at CF
    clear hF
    go_enter Try.func34, Try.ntmps34
    go_wp2_with fail
    refine (unhide CF).mono ?_
    rintro e u3 ⟨rfl, b3⟩
    have H3 := hide b3
    clear b3 CF c0 c1 c2 c3 c4
    obtain ⟨c0, c1, c2, c3, c4⟩ := row_cell (unhide HT u3 (unhide H3)).1
    have ATX := (unhide HT u3 (unhide H3)).2.1
    obtain ⟨z0, z1, z2, z3, z4⟩ := row_cell ATX
    have fz : ∀ q, u3.frozen? ⟨g + 1, q, none⟩ = false := fun q => frozen_of_row u3 (g + 1) q _ _ ATX
    have fz0 := fz 0
    have fz1 := fz 1
    have fz2 := fz 2
    have fz3 := fz 3
    have fz4 := fz 4
    have HAT := hide ATX
    clear fz ATX
    go_wp2_with fail
    have ATX := unhide HAT
    have BW := (unhide HT u3 (unhide H3)).2.2.2.2.1
    have VV := (unhide HT u3 (unhide H3)).2.2.1
    have BU := (unhide HT u3 (unhide H3)).2.2.2.1
    have R9 := five_set u3 (g + 1) 30 _ _ _ _ _ (.int .i64 k) (.int .i64 n) (.string s) (.slice al ln cl) (.slice ak m ck) ATX
    have O9 := five_other u3 (g + 1) (x0 := .int .i64 k) (x1 := .int .i64 n) (x2 := .string s) (x3 := .slice al ln cl) (x4 := .slice ak m ck)
    have S9 : (((((u3.setCell ⟨g + 1, 0, none⟩ (.int .i64 k)).setCell ⟨g + 1, 1, none⟩ (.int .i64 n)).setCell ⟨g + 1, 2, none⟩ (.string s)).setCell ⟨g + 1, 3, none⟩ (.slice al ln cl)).setCell ⟨g + 1, 4, none⟩ (.slice ak m ck)).heap.size = u3.heap.size := by simp
    obtain ⟨w9, hw9⟩ : ∃ w9, (((((u3.setCell ⟨g + 1, 0, none⟩ (.int .i64 k)).setCell ⟨g + 1, 1, none⟩ (.int .i64 n)).setCell ⟨g + 1, 2, none⟩ (.string s)).setCell ⟨g + 1, 3, none⟩ (.slice al ln cl)).setCell ⟨g + 1, 4, none⟩ (.slice ak m ck)) = w9 := ⟨_, rfl⟩
    rw [hw9] at R9 S9 ⊢
    have B9 : Below w.heap.size w w9 := by rw [← hw9]; exact five_below BW (by omega) _ _ _ _ _
    obtain ⟨r0, r1, r2, r3, r4⟩ := row_cell R9
    refine bodyPost_ret (v := .agg #[.int .i64 k, .int .i64 n, .string s, .slice al ln cl, .slice ak m ck]) (by simp [results, Try.results34, go_sem, r0, r1, r2, r3, r4]) rfl ?_
    have V9 : IsV w9 w9.heap.size v (.agg #[.int .i64 k, .int .i64 n, .string s, .slice al ln cl, .slice ak m ck]) := IsV.lift (by omega) (VV.mono (by rw [← hw9]; exact five_below (Below.refl _ _) (by omega) _ _ _ _ _))
    first | exact ⟨_, rfl, V9, B9, (fun h => by cases h), fun _ => rfl⟩ | (rw [hg] at B9; exact ⟨_, rfl, V9, B9, (fun h => by cases h), fun _ => rfl⟩)
  | true =>
    rw [hF] at CF
    have hcn : cnt v ≤ 5000 := by unfold fewB at hF; exact of_decide_eq_true hF
    have CD := fun u hu => hide (deep_any (dep v) v _ B u (Nat.le_refl _) hcn (unhide HT u hu).2.2.1 (unhide HT u hu).2.2.2.1)
    clear hF hcn
    go_enter Try.func34, Try.ntmps34
    go_wp2_with fail
    refine (unhide CF).mono ?_
    rintro e u3 ⟨rfl, b3⟩
    have H3 := hide b3
    clear b3 CF c0 c1 c2 c3 c4
    obtain ⟨c0, c1, c2, c3, c4⟩ := row_cell (unhide HT u3 (unhide H3)).1
    go_wp2_with fail
    refine (unhide (CD u3 (unhide H3))).mono ?_
    rintro e u4 ⟨x4, rfl, p4, b4⟩
    obtain ⟨k4, n4, s4, l4, ks4, al4, ak4, cl4, ck4, hv4, rfl⟩ := p4.shape
    clear hv4
    obtain ⟨lc, hlc⟩ : ∃ lc, l4.length = lc := ⟨_, rfl⟩
    obtain ⟨mc, hmc⟩ : ∃ mc, ks4.length = mc := ⟨_, rfl⟩
    rw [hlc, hmc] at p4 ⊢
    have X4 := (unhide H3).trans (b4.mono (unhide H3).size)
    have H4 := hide (And.intro X4 (And.intro p4 b4.size))
    have ATX := (unhide HT u4 X4).2.1
    obtain ⟨z0, z1, z2, z3, z4⟩ := row_cell ATX
    have fz : ∀ q, u4.frozen? ⟨g + 1, q, none⟩ = false := fun q => frozen_of_row u4 (g + 1) q _ _ ATX
    have fz0 := fz 0
    have fz1 := fz 1
    have fz2 := fz 2
    have fz3 := fz 3
    have fz4 := fz 4
    have HAT := hide ATX
    clear fz ATX p4 b4 X4 CD hlc hmc c0 c1 c2 c3 c4
    go_wp2_with fail
    have ATX := unhide HAT
    have BW := (unhide HT u4 (unhide H4).1).2.2.2.2.1
    have g3 := (unhide HT u3 (unhide H3)).2.2.2.2.2
    have R9 := five_set u4 (g + 1) 30 _ _ _ _ _ (.int .i64 k4) (.int .i64 n4) (.string s4) (.slice al4 lc cl4) (.slice ak4 mc ck4) ATX
    have O9 := five_other u4 (g + 1) (x0 := .int .i64 k4) (x1 := .int .i64 n4) (x2 := .string s4) (x3 := .slice al4 lc cl4) (x4 := .slice ak4 mc ck4)
    have S9 : (((((u4.setCell ⟨g + 1, 0, none⟩ (.int .i64 k4)).setCell ⟨g + 1, 1, none⟩ (.int .i64 n4)).setCell ⟨g + 1, 2, none⟩ (.string s4)).setCell ⟨g + 1, 3, none⟩ (.slice al4 lc cl4)).setCell ⟨g + 1, 4, none⟩ (.slice ak4 mc ck4)).heap.size = u4.heap.size := by simp
    obtain ⟨w9, hw9⟩ : ∃ w9, (((((u4.setCell ⟨g + 1, 0, none⟩ (.int .i64 k4)).setCell ⟨g + 1, 1, none⟩ (.int .i64 n4)).setCell ⟨g + 1, 2, none⟩ (.string s4)).setCell ⟨g + 1, 3, none⟩ (.slice al4 lc cl4)).setCell ⟨g + 1, 4, none⟩ (.slice ak4 mc ck4)) = w9 := ⟨_, rfl⟩
    rw [hw9] at R9 S9 ⊢
    have B9 : Below w.heap.size w w9 := by rw [← hw9]; exact five_below BW (by omega) _ _ _ _ _
    obtain ⟨r0, r1, r2, r3, r4⟩ := row_cell R9
    refine bodyPost_ret (v := .agg #[.int .i64 k4, .int .i64 n4, .string s4, .slice al4 lc cl4, .slice ak4 mc ck4]) (by simp [results, Try.results34, go_sem, r0, r1, r2, r3, r4]) rfl ?_
    have V9 : IsV w9 w9.heap.size v (.agg #[.int .i64 k4, .int .i64 n4, .string s4, .slice al4 lc cl4, .slice ak4 mc ck4]) := IsQ.isV (fun q hq => by have := hq.2; omega) ((unhide H4).2.1.move (fun q hq => by rw [← hw9]; exact O9 q (by have := hq.1; omega)))
    have Q9 : IsQ w9 (fun b => w.heap.size ≤ b ∧ b < w9.heap.size) v (.agg #[.int .i64 k4, .int .i64 n4, .string s4, .slice al4 lc cl4, .slice ak4 mc ck4]) := ((unhide H4).2.1.move (fun q hq => by rw [← hw9]; exact O9 q (by have := hq.1; omega))).weak (fun q hq => ⟨by have := hq.1; omega, by have := hq.2; omega⟩)
    first | exact ⟨_, rfl, V9, B9, (fun _ => Q9), fun h => by cases h⟩ | (rw [hg] at B9 Q9; exact ⟨_, rfl, V9, B9, (fun _ => Q9), fun h => by cases h⟩)

end Go.Proofs.Ytdaooapfokhfcaa

namespace Go.Proofs.Ytdaooapfokhfcaa
open Go.RowKit

/-- what pick answers -/
def pickI (c n : Int) : Int := (if c < 0 then -(c + 1) else c) % n

set_option maxHeartbeats 400000 in
theorem pick_any (c n : Int) (w : World) (h0 : -9223372036854775808 ≤ c) (h1 : c ≤ 9223372036854775807) (n0 : 0 < n) (n1 : n ≤ 9223372036854775807) :
    Calls Try.prog 12 #[.int .i64 c, .int .i64 n] w fun e w' => e = .returned (.int .i64 (pickI c n)) ∧ w' = w := by
  by_cases hc : c < 0
  · have e1 : (-(c + 1)).tmod n = pickI c n := by rw [Int.tmod_eq_emod_of_nonneg (by omega)]; simp [pickI, hc]
    have hb : 0 ≤ pickI c n ∧ pickI c n < n := by unfold pickI; exact ⟨Int.emod_nonneg _ (by omega), Int.emod_lt_of_pos _ n0⟩
    generalize pickI c n = r at *
    have hn : ¬ n = 0 := by omega
    have hn1 : ¬ n = -1 := by omega
    go_enter Try.func12, Try.ntmps12
    go_wp2
    go_ret
    exact ⟨rfl, rfl⟩
  · have e1 : c.tmod n = pickI c n := by rw [Int.tmod_eq_emod_of_nonneg (by omega)]; simp [pickI, hc]
    have hb : 0 ≤ pickI c n ∧ pickI c n < n := by unfold pickI; exact ⟨Int.emod_nonneg _ (by omega), Int.emod_lt_of_pos _ n0⟩
    generalize pickI c n = r at *
    have hn : ¬ n = 0 := by omega
    have hn1 : ¬ n = -1 := by omega
    go_enter Try.func12, Try.ntmps12
    go_wp2
    go_ret
    exact ⟨rfl, rfl⟩
end Go.Proofs.Ytdaooapfokhfcaa

namespace Go.Proofs.Ytdaooapfokhfcaa
open Go.RowKit
set_option linter.unusedVariables false

/-- what is done -/
structure Opx where
  kd : Int
  key : ByteArray
  v : Vl

/-- the cells of one -/
structure OpAt (w : World) (B : Nat) (p : Addr) (o : Opx) (b off : Nat) (x0 x1 : Int) (x2 : ByteArray) (x3 : Option Addr) (x4 x5 : Nat) (x6 : Option Addr) (x7 x8 : Nat) : Prop where
  at' : p = ⟨b, off, none⟩
  lt : b < B
  k : w.cell? ⟨b, off, none⟩ = some (.int .i64 o.kd)
  s : w.cell? ⟨b, off + 1, none⟩ = some (.string o.key)
  c0 : w.cell? ⟨b, off + 2, none⟩ = some (.int .i64 x0)
  c1 : w.cell? ⟨b, off + 3, none⟩ = some (.int .i64 x1)
  c2 : w.cell? ⟨b, off + 4, none⟩ = some (.string x2)
  c3 : w.cell? ⟨b, off + 5, none⟩ = some (.slice x3 x4 x5)
  c4 : w.cell? ⟨b, off + 6, none⟩ = some (.slice x6 x7 x8)
  bk : -9223372036854775808 ≤ o.kd ∧ o.kd ≤ 9223372036854775807
  bs : o.key.size ≤ 140737488351232
  is : IsV w B o.v (.agg #[.int .i64 x0, .int .i64 x1, .string x2, .slice x3 x4 x5, .slice x6 x7 x8])

structure OpsF (w : World) (B : Nat) (ao : Option Addr) (n : Nat) (os : List Opx) : Prop where
  length : os.length = n
  bl : n ≤ 1400000000000
  cell : ∀ i o, os[i]? = some o → ∃ a b off x0 x1 x2 x3 x4 x5 x6 x7 x8, ao = some a ∧ OpAt w B (a.add (i * 7)) o b off x0 x1 x2 x3 x4 x5 x6 x7 x8

theorem OpsF.later {w u : World} {B : Nat} {ao : Option Addr} {n : Nat} {os : List Opx} (h : OpsF w B ao n os) (hb : Below B w u) : OpsF u B ao n os :=
  ⟨h.length, h.bl, fun i t ht => by
    obtain ⟨a, b, off, x0, x1, x2, x3, x4, x5, x6, x7, x8, ha, p⟩ := h.cell i t ht
    have hlt := p.lt
    exact ⟨a, b, off, x0, x1, x2, x3, x4, x5, x6, x7, x8, ha, p.at', p.lt, (hb.cell hlt).trans p.k, (hb.cell hlt).trans p.s, (hb.cell hlt).trans p.c0, (hb.cell hlt).trans p.c1, (hb.cell hlt).trans p.c2, (hb.cell hlt).trans p.c3, (hb.cell hlt).trans p.c4, p.bk, p.bs, p.is.mono hb⟩⟩
end Go.Proofs.Ytdaooapfokhfcaa
