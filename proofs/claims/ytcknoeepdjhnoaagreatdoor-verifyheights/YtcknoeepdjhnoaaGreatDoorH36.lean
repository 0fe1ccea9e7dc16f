/-
  The document's own table of operations (layer 8): Rows, Info, Named; no conditions.
  The document's own Info (layer 8); no conditions.
  Layer 12, the document's own look: what only reads it; conditions: the form's own reach.
  Layer 12, the document's own look: moves; conditions: the form's own reach.
-/
import Derived.Test.YtcknoeepdjhnoaaGreatDoorH12
import Derived.OwnWalk
import Derived.Test.YtcknoeepdjhnoaaGreatDoorH35
import Derived.BigQuiet
import Derived.Deep.QuietTactic
set_option linter.unusedVariables false
set_option linter.unusedSimpArgs false
namespace Go.Proofs.YtcknoeepdjhnoaaGreatDoor
open Go.RowKit

/-- the table without the blank row, as cells -/
def ROWV : List Value := OPS.tail.flatMap infV

theorem ROWV_at (k : Nat) (x : Inf) (hx : OPS[k + 1]? = some x) (j : Nat) (v : Value) (hv : (infV x)[j]? = some v) : ROWV[k * 6 + j]? = some v := by
  have key : ∀ (l : List Inf) (k : Nat) (x : Inf), l[k]? = some x → ∀ j v, (infV x)[j]? = some v → (l.flatMap infV)[k * 6 + j]? = some v := by
    intro l
    induction l with
    | nil => intro k x h; simp at h
    | cons y r ih =>
      intro k x h j v hv
      have hj : j < 6 := (List.getElem?_eq_some_iff.1 hv).1
      rw [List.flatMap_cons]
      cases k with
      | zero =>
        simp at h
        subst h
        rw [Nat.zero_mul, Nat.zero_add, List.getElem?_append_left hj]
        exact hv
      | succ k =>
        rw [List.getElem?_append_right (by show 6 ≤ _; omega), show (k + 1) * 6 + j - (infV y).length = k * 6 + j by show (k + 1) * 6 + j - 6 = _; omega]
        exact ih k x (by simpa using h) j v hv
  refine key OPS.tail k x ?_ j v hv
  rw [List.getElem?_tail]
  exact hx

/-- a list that is laid, its cells a term of one's own -/
theorem wpList_buildSlice {P : Program} {w : World} {ops : Array Oper} {rest : List Oper} {o : Oper} {a : Act} {Q : Exit → Act → World → Prop} (hgd : o.guard = none) (T : TypeId) (n : Nat) (parts : Array (Nat × Operand)) (ho : o.op = .buildSlice T n parts)
    (vals : List (Nat × Value)) (hp : (parts.map fun (i, x) => (i, a.eval x)).toList = vals) (e : TypeId) (z : Value) (size : Nat) (i0 : TypeInfo) (hu : P.underlying T = some (.slice e)) (hi : P.info? e = some i0) (hz : i0.zero = some z) (hs : i0.size = size) (hn0 : ¬ n * size = 0) (hn : n * size ≤ 16777216)
    (c : Array Value) (hf : Instr.fill (fun i => some (i * size, size)) ((Array.range (n * size)).map (z.cells[· % z.cells.size]!)) vals = some c)
    (h : ∀ w', Hid (w' = w.alloc (.cells c e)) → wpList P ops Q rest (a.put o.dst (.slice (some ⟨w.heap.size, 0, none⟩) n n)) w') : wpList P ops Q (o :: rest) a w := by
  refine wpList_plain hgd fun K hK => ?_
  have hp' : (parts.map fun (i, x) => (i, a.eval x)) = vals.toArray := by rw [← hp]
  have hnn : ¬ 16777216 < n * size := by omega
  have hrun : (Instr.buildSlice T n vals.toArray).run P w = .ok (.slice (some ⟨w.heap.size, 0, none⟩) n n) (w.alloc (.cells c e)) := by
    subst hs
    simp [Instr.buildSlice, run_underlying hu, sizeOf, typeInfo, zeroValue, hi, hz, hn0, hnn, hf, newRow, Result.andThen]
  unfold Oper.wp
  simp only [execOp, ho, hp', hrun, Sem.run_bind, Result.andThen]
  exact hK _ _ (h _ rfl)

theorem inf_info : (Tryz.prog.info? 97).map (fun i => (i.zero, i.size, i.bytes)) = some (some (.agg #[.string ⟨#[]⟩, .int .i64 0, .int .i64 0, .int .i64 0, .int .i64 0, .int .i64 0]), 6, 56) := by kernel_rfl

def infoVals : List (Nat × Value) := (List.range 41).map fun k => (k, .agg (infV (OPS.getD (k + 1) blank)).toArray)

theorem rows_fill : Instr.fill (fun i => some (i * 6, 6)) ((Array.range (41 * 6)).map ((Value.agg #[.string ⟨#[]⟩, .int .i64 0, .int .i64 0, .int .i64 0, .int .i64 0, .int .i64 0]).cells[· % (Value.agg #[.string ⟨#[]⟩, .int .i64 0, .int .i64 0, .int .i64 0, .int .i64 0, .int .i64 0]).cells.size]!)) infoVals = some ROWV.toArray := by kernel_rfl

set_option maxRecDepth 100000 in
set_option maxHeartbeats 2000000 in
theorem rows_any (w : World) : Calls Tryz.prog 78 #[] w fun e w' => e = .returned (.slice (some ⟨w.heap.size, 0, none⟩) 41 41) ∧ w'.heap[w.heap.size]? = some (.cells ROWV.toArray 97 (0, 0)) ∧ w'.heap.size = w.heap.size + 1 ∧ Below w.heap.size w w' := by
  obtain ⟨i0, hi, hz0, hz1, hz2⟩ := info_parts inf_info
  go_enter Tryz.func78, Tryz.ntmps78
  have tok : True := trivial
  go_wp2_with (first | (have _t := tok; refine wpList_buildSlice rfl 114 41 _ rfl infoVals ?_ 97 _ 6 i0 Tryz.underlying114 hi hz0 hz1 (by decide) (by decide) ROWV.toArray rows_fill ?_; clear tok))
  · kernel_rfl
  · intro w1 hw1
    have B1 : Hid (w1.heap[w.heap.size]? = some (.cells ROWV.toArray 97 (0, 0)) ∧ w1.heap.size = w.heap.size + 1 ∧ Below w.heap.size w w1) := hide (by
      rw [unhide hw1]
      exact ⟨heap_alloc_new _ _, by simp, (Below.refl _ _).alloc (Nat.le_refl _) _⟩)
    clear hw1
    go_wp2_with fail
    go_ret
    exact ⟨rfl, unhide B1⟩
end Go.Proofs.YtcknoeepdjhnoaaGreatDoor

namespace Go.Proofs.YtcknoeepdjhnoaaGreatDoor
open Go.RowKit

theorem rowv_cell {w : World} {g : Nat} (h : w.heap[g]? = some (.cells ROWV.toArray 97 (0, 0))) (k : Nat) (x : Inf) (hx : OPS[k + 1]? = some x) (j : Nat) (v : Value) (hv : (infV x)[j]? = some v) : w.cell? ⟨g, k * 6 + j, none⟩ = some v := by
  rw [cell_of_row w g _ _ _ (0, 0) h]
  simpa using ROWV_at k x hx j v hv

theorem one_inf (s : ByteArray) (a b c d f : Int) : (#[.string s, .int .i64 a, .int .i64 b, .int .i64 c, .int .i64 d, .int .i64 f] : Array Value).all (·.oneCell') = true := by simp [Value.oneCell']

set_option maxRecDepth 100000 in
set_option maxHeartbeats 400000 in
theorem rinfo_any (n : Int) (w : World) :
    Calls Tryz.prog 45 #[.int .i64 n] w fun e w' => e = .returned (.tuple #[.agg (infV (infoA n).1).toArray, .bool (infoA n).2]) ∧ Below w.heap.size w w' := by
  obtain ⟨g, hg⟩ : ∃ g, w.heap.size = g := ⟨_, rfl⟩
  obtain ⟨w1, hw1⟩ : ∃ w1, w.alloc (.cells #[.string ⟨#[]⟩, .int .i64 0, .int .i64 0, .int .i64 0, .int .i64 0, .int .i64 0] 97) = w1 := ⟨_, rfl⟩
  have B1 : Below w.heap.size w w1 := by rw [← hw1]; exact (Below.refl _ _).alloc (Nat.le_refl _) _
  have A1 : w1.heap[g]? = some (.cells #[.string ⟨#[]⟩, .int .i64 0, .int .i64 0, .int .i64 0, .int .i64 0, .int .i64 0] 97 (0, 0)) := by rw [← hw1, ← hg]; exact heap_alloc_new _ _
  have Z1 : w1.heap.size = g + 1 := by rw [← hw1, ← hg]; simp
  have CR := hide (rows_any w1)
  have H1 := hide (And.intro B1 A1)
  clear B1 A1
  by_cases hn : 1 ≤ n ∧ n ≤ 41
  · obtain ⟨k, rfl⟩ : ∃ k : Nat, n = ((k + 1 : Nat) : Int) := ⟨n.toNat - 1, by omega⟩
    have hk := getD_ops (k + 1) (by omega)
    have e1 : infoA ((k + 1 : Nat) : Int) = (OPS.getD (k + 1) blank, true) := by unfold infoA; rw [if_pos hn]; simp
    rw [e1]
    obtain ⟨x, hx⟩ : ∃ x, OPS.getD (k + 1) blank = x := ⟨_, rfl⟩
    rw [hx] at hk
    rw [hx]
    obtain ⟨s, a, b, c, d, f⟩ := x
    obtain ⟨m, hm⟩ : ∃ m : Int, ((k + 1 : Nat) : Int) = m := ⟨_, rfl⟩
    rw [hm]
    rw [hm] at hn
    have hm1 : m - 1 = (k : Int) := by omega
    have hm2 : IntKind.i64.wrap (k : Int) = (k : Int) := by rw [IntKind.wrap_i64]; omega
    have n3 : ¬ m < 1 := by omega
    have n4 : ¬ 41 < m := by omega
    have n5 : (k : Int) < 41 := by omega
    have HK := hide hk
    clear hk e1 hx hm hn
    go_enter Tryz.func45, Tryz.ntmps45
    go_wp2_with fail
    refine (unhide CR).mono ?_
    rintro e w2 ⟨rfl, A2, Z2, B2⟩
    have c0 : w2.cell? ⟨w1.heap.size, k * 6, none⟩ = some (.string s) := rowv_cell A2 k _ (unhide HK) 0 _ rfl
    have c1 : w2.cell? ⟨w1.heap.size, k * 6 + 1, none⟩ = some (.int .i64 a) := rowv_cell A2 k _ (unhide HK) 1 _ rfl
    have c2 : w2.cell? ⟨w1.heap.size, k * 6 + 2, none⟩ = some (.int .i64 b) := rowv_cell A2 k _ (unhide HK) 2 _ rfl
    have c3 : w2.cell? ⟨w1.heap.size, k * 6 + 3, none⟩ = some (.int .i64 c) := rowv_cell A2 k _ (unhide HK) 3 _ rfl
    have c4 : w2.cell? ⟨w1.heap.size, k * 6 + 4, none⟩ = some (.int .i64 d) := rowv_cell A2 k _ (unhide HK) 4 _ rfl
    have c5 : w2.cell? ⟨w1.heap.size, k * 6 + 5, none⟩ = some (.int .i64 f) := rowv_cell A2 k _ (unhide HK) 5 _ rfl
    have A2' := (B2.block g (by omega)).trans (unhide H1).2
    have H2 := hide (And.intro A2' B2)
    rw [Z1] at c0 c1 c2 c3 c4 c5
    clear A2 A2' B2 CR Z2
    have tok : True := trivial
    go_wp2_with (first | (have _t := tok; refine wpList_put_arr rfl 97 (.tmp 2) (.tmp 19) rfl g _ _ rfl rfl (unhide H2).1 rfl size_inf (one_inf _ _ _ _ _ _) ?_; clear tok; intro w3 M3))
    exact bodyPost_ret (ret_ct (p := 2) (u := 3) (T := 97) rfl _ _ g _ _ _ rfl (unhide M3).at' Tryz.underlying97 rfl size_inf) rfl ⟨rfl, (unhide M3).below w.heap.size w ((unhide H1).1.trans ((unhide H2).2.mono (unhide H1).1.size)) (by omega)⟩
  · have e1 : infoA n = (blank, false) := by unfold infoA; rw [if_neg hn]
    rw [e1]
    have tok : True := trivial
    by_cases n1 : n < 1
    · go_enter Tryz.func45, Tryz.ntmps45
      go_wp2_with fail
      refine (unhide CR).mono ?_
      rintro e w2 ⟨rfl, A2, Z2, B2⟩
      have A2' := (B2.block g (by omega)).trans (unhide H1).2
      have H2 := hide (And.intro A2' B2)
      clear A2 A2' B2 CR Z2
      go_wp2_with (first | (have _t := tok; refine wpList_put_arr rfl 97 (.tmp 2) (.tmp 14) rfl g _ _ rfl rfl (unhide H2).1 rfl size_inf (one_inf _ _ _ _ _ _) ?_; clear tok; intro w3 M3))
      exact bodyPost_ret (ret_ct (p := 2) (u := 3) (T := 97) rfl _ _ g _ _ _ rfl (unhide M3).at' Tryz.underlying97 rfl size_inf) rfl ⟨rfl, (unhide M3).below w.heap.size w ((unhide H1).1.trans ((unhide H2).2.mono (unhide H1).1.size)) (by omega)⟩
    · have n2 : 41 < n := by omega
      go_enter Tryz.func45, Tryz.ntmps45
      go_wp2_with fail
      refine (unhide CR).mono ?_
      rintro e w2 ⟨rfl, A2, Z2, B2⟩
      have A2' := (B2.block g (by omega)).trans (unhide H1).2
      have H2 := hide (And.intro A2' B2)
      clear A2 A2' B2 CR Z2
      go_wp2_with (first | (have _t := tok; refine wpList_put_arr rfl 97 (.tmp 2) (.tmp 14) rfl g _ _ rfl rfl (unhide H2).1 rfl size_inf (one_inf _ _ _ _ _ _) ?_; clear tok; intro w3 M3))
      exact bodyPost_ret (ret_ct (p := 2) (u := 3) (T := 97) rfl _ _ g _ _ _ rfl (unhide M3).at' Tryz.underlying97 rfl size_inf) rfl ⟨rfl, (unhide M3).below w.heap.size w ((unhide H1).1.trans ((unhide H2).2.mono (unhide H1).1.size)) (by omega)⟩
end Go.Proofs.YtcknoeepdjhnoaaGreatDoor

namespace Go.Proofs.YtcknoeepdjhnoaaGreatDoor
open Go.RowKit
set_option linter.unusedVariables false
set_option linter.unusedSimpArgs false

/-- what a look of the document's holds, but its low -/
structure Kv where
  a1 : Option Addr
  n1 : Nat
  c1 : Nat
  a2 : Option Addr
  n2 : Nat
  c2 : Nat
  a3 : Option Addr
  n3 : Nat
  c3 : Nat
  f : Nat
  al : Option Addr
  nl : Nat
  cl : Nat
  ap : Option Addr
  np : Nat
  cp : Nat

def Kv.cells (x : Kv) (hv wv : Value) (low : Int) : Array Value :=
  #[.slice x.a1 x.n1 x.c1, .slice x.a2 x.n2 x.c2, .slice x.a3 x.n3 x.c3, .int .i64 (x.f : Int), .slice x.al x.nl x.cl, .slice x.ap x.np x.cp, hv, wv, .int .i64 low]

/-- a look that can be read -/
structure SeeK (w : World) (B g : Nat) (x : Kv) (m : Md) (fn : Fn) (ps : List Int) (hv wv : Value) (lw : Int) : Prop where
  box : w.heap[g]? = some (.cells (x.cells hv wv lw) 71 (0, 0))
  l1 : m.cs.length = x.n1
  l2 : m.fs.length = x.n2
  lf : m.fs[x.f]? = some fn
  mod : IsM w (fun b => b < B) m x.a1 x.c1 x.a2 x.c2 x.a3 x.c3
  big : B ≤ w.heap.size
  lp : ps.length = x.np
  bp : x.np ≤ 4000
  pls : RdI w x.ap ps

theorem SeeK.later {w w' : World} {B g : Nat} {x : Kv} {m : Md} {fn : Fn} {ps : List Int} {hv wv : Value} {lw : Int} (h : SeeK w B g x m fn ps hv wv lw) (hb : Below w.heap.size w w') : SeeK w' B g x m fn ps hv wv lw :=
  ⟨(hb.block g (Array.getElem?_eq_some_iff.1 h.box).1).trans h.box, h.l1, h.l2, h.lf, h.mod.later (hb.mono h.big), Nat.le_trans h.big hb.size, h.lp, h.bp, h.pls.later hb⟩

theorem SeeK.at {w : World} {B g : Nat} {x : Kv} {m : Md} {fn : Fn} {ps : List Int} {hv wv : Value} {lw : Int} (h : SeeK w B g x m fn ps hv wv lw) :
    w.cell? ⟨g, 0, none⟩ = some (.slice x.a1 x.n1 x.c1) ∧ w.cell? ⟨g, 1, none⟩ = some (.slice x.a2 x.n2 x.c2) ∧ w.cell? ⟨g, 3, none⟩ = some (.int .i64 (x.f : Int)) ∧ w.cell? ⟨g, 5, none⟩ = some (.slice x.ap x.np x.cp) ∧ w.cell? ⟨g, 6, none⟩ = some hv ∧ w.cell? ⟨g, 7, none⟩ = some wv ∧ w.cell? ⟨g, 8, none⟩ = some (.int .i64 lw) :=
  ⟨by rw [cell_of_row w g 0 _ _ (0, 0) h.box]; rfl, by rw [cell_of_row w g 1 _ _ (0, 0) h.box]; rfl, by rw [cell_of_row w g 3 _ _ (0, 0) h.box]; rfl, by rw [cell_of_row w g 5 _ _ (0, 0) h.box]; rfl, by rw [cell_of_row w g 6 _ _ (0, 0) h.box]; rfl, by rw [cell_of_row w g 7 _ _ (0, 0) h.box]; rfl, by rw [cell_of_row w g 8 _ _ (0, 0) h.box]; rfl⟩

/-- is a value an Array of Bytes alone? -/
def textsB (v : Vl) : Bool := decide (v.kind = 4) && v.l.all keyB

set_option maxRecDepth 100000 in
set_option maxHeartbeats 2000000 in
theorem texts_any (v : Vl) (x : Value) (B : Nat) (w : World) (hv : IsV w B v x) (hBs : B ≤ w.heap.size) :
    Calls Tryz.prog 46 #[x] w fun e w' => e = .returned (.bool (textsB v)) ∧ Below w.heap.size w w' := by
  obtain ⟨G, hG⟩ : ∃ G, w.heap.size = G := ⟨_, rfl⟩
  have hv' := hv
  obtain ⟨kd, nn, s, l, ks, al, ak, cl, ck, rfl, rfl⟩ := hv.shape
  obtain ⟨ln, hln⟩ : ∃ ln, l.length = ln := ⟨_, rfl⟩
  obtain ⟨kn, hkn⟩ : ∃ kn, ks.length = kn := ⟨_, rfl⟩
  have hlb : ln ≤ 140737488351232 := by
    obtain ⟨_, _, _, _, V, _, hf, _⟩ := hv'
    have := hf.bl
    simp only [hln] at this
    exact this
  obtain ⟨w1, hw1⟩ : ∃ w1, w.alloc (.cells #[.int .i64 kd, .int .i64 nn, .string s, .slice al ln cl, .slice ak kn ck] 42) = w1 := ⟨_, rfl⟩
  have A1 : w1.heap[G]? = some (.cells #[.int .i64 kd, .int .i64 nn, .string s, .slice al ln cl, .slice ak kn ck] 42 (0, 0)) := by rw [← hw1, ← hG]; exact heap_alloc_new _ _
  have B1 : Below w.heap.size w w1 := by rw [← hw1]; exact (Below.refl _ _).alloc (Nat.le_refl _) _
  have c0 : w1.cell? ⟨G, 0, none⟩ = some (.int .i64 kd) := by rw [cell_of_row w1 G 0 _ _ (0, 0) A1]; rfl
  have c3 : w1.cell? ⟨G, 3, none⟩ = some (.slice al ln cl) := by rw [cell_of_row w1 G 3 _ _ (0, 0) A1]; rfl
  have HEL : Hid (∀ i y, l[i]? = some y → ∃ a : Addr, al = some a ∧ w1.cell? (a.add (i * 5)) = some (.int .i64 y.kind)) := hide (fun i y hy => by
    obtain ⟨al2, ak2, cl2, ck2, V, hx, hf, hl⟩ := IsV.mono (B1.mono hBs) hv'
    have hxx : al2 = al := by
      have h1 := congrArg Array.toList (Value.agg.inj hx)
      simp at h1
      exact h1.1.1.symm
    subst hxx
    have hi : i < l.length := (List.getElem?_eq_some_iff.1 hy).1
    obtain ⟨a3, k3, c3, d3, V3, hx3, hf3, hl3⟩ := (IsPL_iff w1 _ l V).1 hl i y hy
    have hVi : V i = [.int .i64 y.kind, .int .i64 y.n, .string y.s, .slice a3 y.l.length c3, .slice k3 y.ks.length d3] := by
      have h1 := congrArg Array.toList (Value.agg.inj hx3)
      simpa using h1
    cases al2 with
    | none => exact absurd (hf.nl rfl).1 (by show l.length ≠ 0; omega)
    | some a =>
      obtain ⟨q1, q2⟩ := hf.hl a rfl i hi
      rw [hVi] at q2
      exact ⟨a, rfl, q2 0 _ rfl⟩)
  have HB := hide B1
  have HL := hide (And.intro hln hkn)
  rw [hln, hkn]
  clear hv hv' A1 B1 hkn
  go_enter Tryz.func46, Tryz.ntmps46
  go_wp2_with fail
  go_loopw [3] (fun v3 wr => ∃ i : Nat, v3 = .int .i64 (i : Int) ∧ Hid (i ≤ ln ∧ (l.take i).all keyB = true) ∧ wr = w1) (fun v3 _ => ln - (intOf v3).toNat)
  case atStart => exact ⟨0, rfl, hide ⟨by omega, rfl⟩, by first | rfl | exact hw1⟩
  case round =>
    obtain ⟨i, rfl, HI, hwr⟩ := hrel
    obtain rfl := hwr
    by_cases hi : i < ln
    · have i1 : (i : Int) < (ln : Int) := by omega
      have i0 : (0 : Int) ≤ (i : Int) := by omega
      obtain ⟨y, hy⟩ : ∃ y, l[i]? = some y := ⟨_, List.getElem?_eq_getElem (by omega)⟩
      obtain ⟨a, rfl, k0⟩ := unhide HEL i y hy
      by_cases hk : y.kind = 3
      · have HI2 : Hid (i + 1 ≤ ln ∧ (l.take (i + 1)).all keyB = true) := hide ⟨by omega, by
          rw [List.take_add_one, hy, Option.toList_some, List.all_append, (unhide HI).2]
          simp [keyB, hk]⟩
        rw [hk] at k0
        clear hy
        go_wp2_with fail
        go_roundw
        case rel => exact ⟨i + 1, by go_num, HI2, by first | rfl | trivial⟩
        case measure => simp [intOf]; omega
      · have qk : (y.kind == 3) = false := by simpa using hk
        have HE : Hid (textsB (.mk kd nn s l ks) = false) := hide (by
          unfold textsB
          have : l.all keyB = false := by
            rw [List.all_eq_false]
            exact ⟨y, List.mem_of_getElem? hy, by simp [keyB, hk]⟩
          simp only [Vl.l, this, Bool.and_false])
        clear hy
        go_wp2_with fail
        go_ret
        exact ⟨by rw [unhide HE]; rfl, by first | exact unhide HB | (rw [← hG]; exact unhide HB)⟩
    · have i1 : ¬ (i : Int) < (ln : Int) := by omega
      have HE : Hid (textsB (.mk kd nn s l ks) = decide (kd = 4)) := hide (by
        unfold textsB
        have h1 := (unhide HI).2
        rw [List.take_of_length_le (by omega)] at h1
        simp only [Vl.l, h1, Bool.and_true, Vl.kind])
      by_cases h4 : kd = 4
      · subst h4
        go_wp2_with fail
        go_ret
        exact ⟨by rw [unhide HE]; rfl, by first | exact unhide HB | (rw [← hG]; exact unhide HB)⟩
      · have q4 : (kd == 4) = false := by simpa using h4
        go_wp2_with fail
        go_ret
        exact ⟨by rw [unhide HE, decide_eq_false h4]; rfl, by first | exact unhide HB | (rw [← hG]; exact unhide HB)⟩

set_option maxRecDepth 100000 in
set_option maxHeartbeats 2000000 in
theorem begins_any {w : World} {B g : Nat} {x : Kv} {m : Md} {fn : Fn} {ps : List Int} {hv wv : Value} {lw : Int} (h : SeeK w B g x m fn ps hv wv lw) (p : Int) :
    Calls Tryz.prog 47 #[.pointer (some ⟨g, 0, none⟩), .int .i64 p] w fun e w' => e = .returned (.bool (decide (p ∈ ps))) ∧ w' = w := by
  obtain ⟨k0, k1, k3, k5, k6, k7, k8⟩ := h.at
  have hlp := h.lp
  have hbp := h.bp
  have HR := hide h.pls
  obtain ⟨np, hnp⟩ : ∃ np, x.np = np := ⟨_, rfl⟩
  rw [hnp] at k5 hlp hbp
  generalize x.ap = ap at *
  generalize x.cp = cp at *
  clear h k0 k1 k3 k6 k7 k8 hnp
  go_enter Tryz.func47, Tryz.ntmps47
  go_wp2_with fail
  go_loopw [5] (fun v5 wr => ∃ i : Nat, v5 = .int .i64 (i : Int) ∧ Hid (i ≤ np ∧ p ∉ ps.take i) ∧ wr = w) (fun v5 _ => np - (intOf v5).toNat)
  case atStart => exact ⟨0, rfl, hide ⟨by omega, by simp⟩, rfl⟩
  case round =>
    obtain ⟨i, rfl, HI, hwr⟩ := hrel
    obtain rfl := hwr
    by_cases hi : i < np
    · have i1 : (i : Int) < (np : Int) := by omega
      have i0 : (0 : Int) ≤ (i : Int) := by omega
      obtain ⟨z, hz⟩ : ∃ z, ps[i]? = some z := ⟨_, List.getElem?_eq_getElem (by omega)⟩
      obtain ⟨a, rfl, cz⟩ := unhide HR i z hz
      by_cases hzp : z = p
      · subst hzp
        have HE : Hid (z ∈ ps) := hide (List.mem_of_getElem? hz)
        clear hz
        go_wp2_with fail
        go_ret
        exact ⟨by rw [decide_eq_true (unhide HE)]; rfl, rfl⟩
      · have qz : (z == p) = false := by simpa using hzp
        have HI2 : Hid (i + 1 ≤ np ∧ p ∉ ps.take (i + 1)) := hide ⟨by omega, by
          rw [List.take_add_one, hz, Option.toList_some, List.mem_append]
          rintro (q | q)
          · exact (unhide HI).2 q
          · exact hzp (List.mem_singleton.1 q).symm⟩
        clear hz
        go_wp2_with fail
        go_roundw
        case rel => exact ⟨i + 1, by go_num, HI2, by first | rfl | trivial⟩
        case measure => simp [intOf]; omega
    · have i1 : ¬ (i : Int) < (np : Int) := by omega
      have HE : Hid (p ∉ ps) := hide (by
        have h1 := (unhide HI).2
        rw [List.take_of_length_le (by omega)] at h1
        exact h1)
      go_wp2_with fail
      go_ret
      exact ⟨by rw [decide_eq_false (unhide HE)]; rfl, rfl⟩
end Go.Proofs.YtcknoeepdjhnoaaGreatDoor

namespace Go.Proofs.YtcknoeepdjhnoaaGreatDoor
open Go.RowKit
set_option linter.unusedVariables false
set_option linter.unusedSimpArgs false

theorem gvs_one : gvsI 8 = 1 ∧ gvsI 23 = 1 ∧ gvsI 24 = 1 := by
  unfold gvsI infoA
  decide +kernel

set_option maxRecDepth 100000 in
set_option maxHeartbeats 4000000 in
theorem movesK_any {w : World} {B g : Nat} {x : Kv} {m : Md} {fn : Fn} {ps : List Int} {hv wv : Value} {lw : Int} (h : SeeK w B g x m fn ps hv wv lw) (op a : Int) (hn : Named m (op, a)) :
    Calls Tryz.prog 79 #[.pointer (some ⟨g, 0, none⟩), .agg #[.int .i64 op, .int .i64 a]] w fun e w' => e = .returned (.tuple #[.int .i64 (tkI m (op, a)), .int .i64 (gvsI op)]) ∧ Below w.heap.size w w' := by
  obtain ⟨G, hG⟩ : ∃ G, w.heap.size = G := ⟨_, rfl⟩
  obtain ⟨w1, hw1⟩ : ∃ w1, w.alloc (.cells #[.int .i64 op, .int .i64 a] 75) = w1 := ⟨_, rfl⟩
  have z1 : w1.heap.size = G + 1 := by rw [← hw1, ← hG]; simp
  have A1 : w1.heap[G]? = some (.cells #[.int .i64 op, .int .i64 a] 75 (0, 0)) := by rw [← hw1, ← hG]; exact heap_alloc_new _ _
  have BW : Below w.heap.size w w1 := by rw [← hw1]; exact (Below.refl _ _).alloc (Nat.le_refl _) _
  have C1 := hide (rinfo_any op w1)
  have hfo := fault_ok hn.flt
  simp only [] at hfo
  have hmo := (opd_at (srt op) (srt_is op hfo.1).2).2.2.2.1
  have a0 : 0 ≤ a := hfo.2.1
  have a1 : a ≤ 3999 := by have := hfo.2.2; omega
  obtain ⟨i, rfl⟩ : ∃ i : Nat, a = (i : Int) := ⟨a.toNat, by omega⟩
  have hgv := gvs_one
  obtain ⟨TK, hTK⟩ : ∃ TK, tkI m (op, (i : Int)) = TK := ⟨_, rfl⟩
  obtain ⟨GV, hGV⟩ : ∃ GV, gvsI op = GV := ⟨_, rfl⟩
  have hG1 : op = 8 ∨ op = 23 ∨ op = 24 → GV = 1 := by
    rintro (rfl | rfl | rfl)
    · rw [← hGV]; exact hgv.1
    · rw [← hGV]; exact hgv.2.1
    · rw [← hGV]; exact hgv.2.2
  have hT' := hTK
  unfold tkI at hT'
  simp only [Int.toNat_natCast] at hT'
  rw [hTK, hGV]
  unfold tksI at hT'
  unfold gvsI at hGV
  clear hgv
  generalize infoA op = y0 at *
  obtain ⟨⟨xn, xa, xb, xc, xd, xf⟩, xe⟩ := y0
  simp only [infV] at C1 hGV hT'
  subst hGV
  have h8 := hn.fn
  have h24 := hn.cn
  simp only [] at h8 h24
  have c0 : w1.cell? ⟨G, 0, none⟩ = some (.int .i64 op) := by rw [cell_of_row w1 _ 0 _ _ (0, 0) A1]; rfl
  have H1 := hide (And.intro BW (And.intro A1 z1))
  have HK := hide h
  have LAST : ∀ w2, Hid (Below w1.heap.size w1 w2) → ∃ w3, w3 = w2.alloc (.cells #[.string xn, .int .i64 xa, .int .i64 xb, .int .i64 xc, .int .i64 xd, .int .i64 xf] 97) ∧ Hid (Below w.heap.size w w3) ∧ (w3.cell? ⟨w2.heap.size, 1, none⟩ = some (.int .i64 xa) ∧ w3.cell? ⟨w2.heap.size, 2, none⟩ = some (.int .i64 xb) ∧ w3.cell? ⟨w2.heap.size, 3, none⟩ = some (.int .i64 xc)) ∧ w3.cell? ⟨G, 0, none⟩ = some (.int .i64 op) ∧ w3.cell? ⟨G, 1, none⟩ = some (.int .i64 (i : Int)) := fun w2 H2 => by
    have hb3 := (unhide H2).alloc (unhide H2).size (.cells #[.string xn, .int .i64 xa, .int .i64 xb, .int .i64 xc, .int .i64 xd, .int .i64 xf] 97)
    have hb := hb3.block G (by have := (unhide H1).2.2; omega)
    refine ⟨_, rfl, ?_, ⟨?_, ?_, ?_⟩, ?_, ?_⟩
    · exact hide ((unhide H1).1.trans (((unhide H2).mono (unhide H1).1.size).alloc (Nat.le_trans (unhide H1).1.size (unhide H2).size) _))
    · rw [cell_of_row _ _ 1 _ _ (0, 0) (heap_alloc_new w2 _)]; rfl
    · rw [cell_of_row _ _ 2 _ _ (0, 0) (heap_alloc_new w2 _)]; rfl
    · rw [cell_of_row _ _ 3 _ _ (0, 0) (heap_alloc_new w2 _)]; rfl
    · rw [cell_of_row _ _ 0 _ _ (0, 0) (hb.trans (unhide H1).2.1)]; rfl
    · rw [cell_of_row _ _ 1 _ _ (0, 0) (hb.trans (unhide H1).2.1)]; rfl
  have HLA := hide LAST
  clear LAST
  have HT := hide hT'
  have HN := hide (And.intro h8 (And.intro h24 hG1))
  clear h hn A1 BW hfo hmo hTK hT' h8 h24 hG1
  go_enter Tryz.func79, Tryz.ntmps79
  go_wp2_with fail
  refine (unhide C1).mono ?_
  rintro e w2 ⟨rfl, B2⟩
  have H2 := hide B2
  clear B2 C1 c0
  go_upto_region 2 with fail
  obtain ⟨w3, hw3, H3, ⟨k1, k2, k3⟩, c0, c1⟩ := unhide HLA w2 H2
  rw [← hw3]
  clear hw3 HLA
  have hK3 := (unhide HK).later (unhide H3)
  obtain ⟨j0, j1, j3, j5, j6, j7, j8⟩ := hK3.at
  have hNb : x.n1 ≤ 140737488351232 ∧ x.n2 ≤ 140737488351232 := by have := hK3.mod.len; have := hK3.l1; have := hK3.l2; omega
  have HK3 := hide hK3
  clear hK3
  by_cases o8 : op = 8
  · subst o8
    have hlt : (i : Int) < (x.n2 : Int) := by have := (unhide HN).1 rfl; rw [(unhide HK3).l2] at this; exact this
    obtain ⟨⟨p, l, s, tt⟩, hy⟩ : ∃ y, m.fs[i]? = some y := ⟨_, List.getElem?_eq_getElem (by have := (unhide HK3).l2; omega)⟩
    obtain ⟨ad, hae, hab, hts, f0, f1, f2, f3⟩ := (unhide HK3).mod.func i p l s tt hy
    rw [hae] at j1
    have HE : Hid (p = TK ∧ xc = 1) := hide ⟨by
      have hh := unhide HT
      rw [if_pos rfl, getD_of hy] at hh
      exact hh, (unhide HN).2.2 (.inl rfl)⟩
    clear HT hy hae
    go_upto_region 4 with fail
    go_quiet (fail)
    go_wp2_with fail
    go_ret2
    exact ⟨by rw [← (unhide HE).1, (unhide HE).2]; rfl, by first | exact below_drewN (unhide H3) _ | (rw [← hG]; exact below_drewN (unhide H3) _)⟩
  · have q8 : (op == 8) = false := by simpa using o8
    by_cases o23 : op = 23
    · subst o23
      have HE : Hid ((i : Int) = TK ∧ xc = 1) := hide ⟨by
        have hh := unhide HT
        rw [if_neg o8, if_pos rfl] at hh
        exact hh, (unhide HN).2.2 (.inr (.inl rfl))⟩
      clear HT
      go_wp2_with fail
      go_ret2
      exact ⟨by rw [← (unhide HE).1, (unhide HE).2]; rfl, by first | exact unhide H3 | (rw [← hG]; exact unhide H3)⟩
    · have q23 : (op == 23) = false := by simpa using o23
      by_cases o24 : op = 24
      · subst o24
        have hlt : (i : Int) < (x.n1 : Int) := by have := (unhide HN).2.1 rfl; rw [(unhide HK3).l1] at this; exact this
        obtain ⟨y, hy⟩ : ∃ y, m.cs[i]? = some y := ⟨_, List.getElem?_eq_getElem (by have := (unhide HK3).l1; omega)⟩
        obtain ⟨ad, y0, y1, y2, al', ak', ll', m', cl', ck', hae, hab, hcc, hvv⟩ := (unhide HK3).mod.const i y hy
        rw [hae] at j0
        have f3 : w3.cell? ⟨(ad.add (i * 5)).block, (ad.add (i * 5)).off + 3, none⟩ = some (.slice al' ll' cl') := hcc 3 _ rfl
        have hll : y.l.length = ll' := by
          obtain ⟨kd, n, s, l, ks, al, ak, cl, ck, V, rfl, hx, hf, el⟩ := hvv.inv
          have h1 := congrArg Array.toList (Value.agg.inj hx)
          simp at h1
          exact h1.2.2.2.1.2.1.symm
        have HE : Hid ((ll' : Int) = TK ∧ xc = 1) := hide ⟨by
          have hh := unhide HT
          rw [if_neg o8, if_neg o23, if_pos rfl, getD_of hy, hll] at hh
          exact hh, (unhide HN).2.2 (.inr (.inr rfl))⟩
        clear HT hy hcc hvv hll hae
        go_upto_region 8 with fail
        go_quiet (fail)
        go_wp2_with fail
        go_ret2
        exact ⟨by rw [← (unhide HE).1, (unhide HE).2]; rfl, by first | exact below_drewN (unhide H3) _ | (rw [← hG]; exact below_drewN (unhide H3) _)⟩
      · have q24 : (op == 24) = false := by simpa using o24
        have HE : Hid (xb = TK) := hide (by
          have hh := unhide HT
          rw [if_neg o8, if_neg o23, if_neg o24] at hh
          exact hh)
        clear HT
        go_upto_region 9 with fail
        go_quiet (fail)
        go_wp2_with fail
        go_ret2
        exact ⟨by rw [← unhide HE]; rfl, by first | exact below_drewN (unhide H3) _ | (rw [← hG]; exact below_drewN (unhide H3) _)⟩
end Go.Proofs.YtcknoeepdjhnoaaGreatDoor
