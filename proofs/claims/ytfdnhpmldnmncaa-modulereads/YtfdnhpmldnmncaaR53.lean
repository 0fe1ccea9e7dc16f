/-
  The walks of Encode of a module (layer 9), and of shown: what every program tells; no conditions but the form's own reach.
  The walk of Same (layer 9): are two modules the same? no conditions but the form's own reach.
-/
import Derived.Test.YtfdnhpmldnmncaaR44
import Derived.Test.YtfdnhpmldnmncaaR40
import Derived.Test.YtfdnhpmldnmncaaR29
import Derived.Laws.StructEq
import Derived.BigQuiet
namespace Go.Proofs.Ytfdnhpmldnmncaa
open Go.RowKit

def codeM (m : Md) : Int := if rightM m = true then 0 else 90
def bytesM (m : Md) : List Int := if rightM m = true then encM m else []

set_option maxRecDepth 100000 in
set_option maxHeartbeats 400000 in
theorem encodeM_any (m : Md) (a1 a2 a3 : Option Addr) (n1 c1 n2 c2 n3 c3 B : Nat) (w : World) (hn1 : m.cs.length = n1) (hn2 : m.fs.length = n2) (hn3 : m.xs.length = n3) (h : IsM w (fun b => b < B) m a1 c1 a2 c2 a3 c3) (hB : B ≤ w.heap.size) :
    Calls Try.prog 11 #[.agg #[.slice a1 n1 c1, .slice a2 n2 c2, .slice a3 n3 c3]] w fun e w' => ∃ (ao : Option Addr) (len cap : Nat), e = .returned (.tuple #[.slice ao len cap, .int .i64 (codeM m)]) ∧ Row8 w' ao len cap (bytesM m) ∧ Below w.heap.size w w' ∧ (∀ a, ao = some a → w.heap.size ≤ a.block) ∧ cap ≤ maxLen ∧ (rightM m = true → w'.ownsRow w.heap.size 5 1 (.slice ao len cap) len ((encM m).map (Value.int .u8))) := by
  obtain ⟨g, hg⟩ : ∃ g, w.heap.size = g := ⟨_, rfl⟩
  have BX := BoxN.mk' w #[.slice a1 n1 c1, .slice a2 n2 c2, .slice a3 n3 c3] 28
  obtain ⟨w1, hw1⟩ : ∃ w1, w.alloc (.cells #[.slice a1 n1 c1, .slice a2 n2 c2, .slice a3 n3 c3] 28) = w1 := ⟨_, rfl⟩
  rw [hw1] at BX
  obtain ⟨m0, m1, m2⟩ := row_cell3 (by have := BX.row; rw [hg] at this; exact this)
  have CL := hide (layM_any m a1 a2 a3 n1 c1 n2 c2 n3 c3 B w1 hn1 hn2 hn3 (h.later (BX.below.mono hB)) (by have := BX.size; omega))
  have HB := hide BX
  have HG := hide hg
  unfold codeM bytesM
  clear BX h hB hn1 hn2 hn3
  cases hR : rightM m with
  | false =>
    rw [hR] at CL
    clear hR
    go_enter Try.func11, Try.ntmps11
    go_wp2_with fail
    refine (unhide CL).mono ?_
    rintro e u ⟨ao, len, cap, rfl, r1, b1, f1, k1, o1⟩
    have H5 : Hid (Below w.heap.size w u) := hide ((unhide HB).below.trans (b1.mono (by have := (unhide HB).size; omega)))
    clear r1 b1 f1 k1 o1 CL
    go_wp2_with fail
    go_ret2
    exact ⟨none, 0, 0, rfl, nilRow _, by first | exact unhide H5 | (rw [← unhide HG]; exact unhide H5), (fun a e => by cases e), by unfold maxLen; omega⟩
  | true =>
    rw [hR] at CL
    clear hR
    go_enter Try.func11, Try.ntmps11
    go_wp2_with fail
    refine (unhide CL).mono ?_
    rintro e u ⟨ao, len, cap, rfl, r1, b1, f1, k1, o1⟩
    have H5 : Hid (Below w.heap.size w u ∧ Row8 u ao len cap (encM m) ∧ (∀ a, ao = some a → w.heap.size ≤ a.block) ∧ cap ≤ maxLen ∧ u.ownsRow w.heap.size 5 1 (.slice ao len cap) len ((encM m).map (Value.int .u8))) := hide (by
      have z := (unhide HB).size
      exact ⟨(unhide HB).below.trans (b1.mono (by omega)), r1, fun a ha => by have := f1 a ha; omega, k1, own_low (o1 rfl) (by omega)⟩)
    clear r1 b1 f1 k1 o1 CL
    go_wp2_with fail
    go_ret2
    obtain ⟨x1, x2, x3, x4, x5⟩ := unhide H5
    exact ⟨ao, len, cap, rfl, x2, by first | exact x1 | (rw [← unhide HG]; exact x1), by first | exact x3 | (rw [← unhide HG]; exact x3), x4, by first | exact x5 | (rw [← unhide HG]; exact x5)⟩

/-- a module without anything -/
def md0 : Md := ⟨[], [], []⟩

theorem md0_is (w : World) (P : Nat → Prop) : IsM w P md0 none 0 none 0 none 0 where
  hc := IsP.of (V := fun _ => []) ⟨by omega, by omega, by decide, fun _ => ⟨rfl, rfl⟩, fun _ => ⟨rfl, rfl⟩, Nat.le_refl _, Nat.le_refl _, by simp [md0], by simp, by simp, (fun a h => by cases h), (fun i h => by simp [md0] at h), (fun a h => by cases h), (fun t h => by cases h)⟩ (fun i y h => by simp [md0] at h)
  hf := ⟨fun _ => ⟨rfl, rfl⟩, Nat.le_refl _, by simp [md0], fun a h => by cases h⟩
  hx := ⟨fun _ => ⟨rfl, rfl⟩, Nat.le_refl _, by simp [md0], fun a h => by cases h⟩
  bf := fun f h => by simp [md0] at h
  bx := fun f h => by simp [md0] at h

theorem md0_bytes : encM md0 = [83, 67, 77, 49, 1, 1, 0, 2, 1, 0, 3, 1, 0] := by
  simp [encM, outM, md0, partsM, secM, bodyM, headM]
  decide
theorem md0_right : rightM md0 = true := by
  unfold rightM
  rw [md0_bytes]
  simp [formedB, md0, exsB]

set_option maxRecDepth 100000 in
set_option maxHeartbeats 400000 in
theorem shown_any (w : World) : Calls Try.prog 6 #[] w fun e w' => e = .returned (.bool true) ∧ Below w.heap.size w w' := by
  have CE := hide (encodeM_any md0 none none none 0 0 0 0 0 0 w.heap.size w rfl rfl rfl (md0_is w _) (Nat.le_refl _))
  have hc : codeM md0 = 0 := by unfold codeM; rw [md0_right]; rfl
  have hb : bytesM md0 = [83, 67, 77, 49, 1, 1, 0, 2, 1, 0, 3, 1, 0] := by unfold bytesM; rw [md0_right, md0_bytes]; rfl
  rw [hc, hb] at CE
  clear hc hb
  go_enter Try.func6, Try.ntmps6
  go_wp2_with fail
  refine (unhide CE).mono ?_
  rintro e u ⟨ao, len, cap, rfl, r1, b1, _, _, _⟩
  have h8 : len = 13 := r1.length.symm
  subst h8
  obtain ⟨b, off, rfl, hcc⟩ := r1.at (by omega)
  have CV : Sem.run Try.prog (convert 22 9 (.slice (some ⟨b, off, none⟩) 13 cap)) u = .ok (.string ⟨#[83, 67, 77, 49, 1, 1, 0, 2, 1, 0, 3, 1, 0]⟩) u := by
    have := conv_row (w := u) (len := 13) (zs := [83, 67, 77, 49, 1, 1, 0, 2, 1, 0, 3, 1, 0]) rfl hcc 0 13 cap (by omega) 0
    rw [Nat.add_zero, List.drop_zero] at this
    exact this
  have B1 := hide b1
  clear r1 b1 hcc CE
  go_wp2_with fail
  go_ret
  exact ⟨rfl, unhide B1⟩
end Go.Proofs.Ytfdnhpmldnmncaa

namespace Go.Proofs.Ytfdnhpmldnmncaa
open Go.RowKit

theorem take_nextM {α : Type} (es fs : List α) (i : Nat) (x : α) (h : es[i]? = some x) (h' : fs[i]? = some x) (ht : es.take i = fs.take i) : es.take (i + 1) = fs.take (i + 1) := by
  obtain ⟨hi, rfl⟩ := List.getElem?_eq_some_iff.1 h
  obtain ⟨hj, he⟩ := List.getElem?_eq_some_iff.1 h'
  rw [List.take_succ_eq_append_getElem hi, List.take_succ_eq_append_getElem hj, ht, he]

theorem bytes_beqM (s t : ByteArray) : (s.toList == t.toList) = true ↔ s = t := by
  rw [beq_iff_eq]
  constructor
  · intro h
    rw [ByteArray.toList_eq, ByteArray.toList_eq] at h
    have := Array.toList_inj.1 h
    cases s
    cases t
    simp_all
  · intro h
    rw [h]

theorem under_fn : Try.prog.underlying 53 = some (.struct (Try.prog.fieldsOf 53)) := by kernel_rfl
theorem held_fn : Try.prog.stoodInHeld 53 = false := by kernel_rfl
theorem guard_fn : Try.prog.eqGuardType Try.prog.depth 53 = false := by kernel_rfl
theorem under_ex : Try.prog.underlying 55 = some (.struct (Try.prog.fieldsOf 55)) := by kernel_rfl
theorem held_ex : Try.prog.stoodInHeld 55 = false := by kernel_rfl
theorem guard_ex : Try.prog.eqGuardType Try.prog.depth 55 = false := by kernel_rfl

theorem toList_inj {s t : ByteArray} : s.toList = t.toList ↔ s = t := by rw [← beq_iff_eq]; exact bytes_beqM s t

theorem neq_fn (p l s p' l' s' : Int) (t t' : ByteArray) (R : Bool) (hR : R = true ↔ ((p, l, s, t) : Fn) = (p', l', s', t')) (w : World) : Sem.run Try.prog (binOp .neq 53 (.agg #[.int .i64 p, .int .i64 l, .int .i64 s, .string t]) (.agg #[.int .i64 p', .int .i64 l', .int .i64 s', .string t'])) w = .ok (.bool (!R)) w := by
  rw [run_neq_struct, run_equalIn_struct _ _ _ _ _ under_fn held_fn]
  simp [Program.fieldsOf, Try.underlying53, Op.eqFields, part, isAgg, run_underlying Try.underlying3, run_underlying Try.underlying9, go_sem, toList_inj]
  cases R with
  | true =>
    have := hR.1 rfl
    simp only [Prod.mk.injEq] at this
    obtain ⟨rfl, rfl, rfl, rfl⟩ := this
    simp
  | false =>
    by_cases h1 : p = p'
    · by_cases h2 : l = l'
      · by_cases h3 : s = s'
        · by_cases h4 : t = t'
          · exact absurd (hR.2 (by rw [h1, h2, h3, h4])) (by simp)
          · simp [h1, h2, h3, h4]
        · simp [h1, h2, h3]
      · simp [h1, h2]
    · simp [h1]

theorem neq_ex (p p' : Int) (t t' : ByteArray) (R : Bool) (hR : R = true ↔ ((t, p) : Ex) = (t', p')) (w : World) : Sem.run Try.prog (binOp .neq 55 (.agg #[.string t, .int .i64 p]) (.agg #[.string t', .int .i64 p'])) w = .ok (.bool (!R)) w := by
  rw [run_neq_struct, run_equalIn_struct _ _ _ _ _ under_ex held_ex]
  simp [Program.fieldsOf, Try.underlying55, Op.eqFields, part, isAgg, run_underlying Try.underlying3, run_underlying Try.underlying9, go_sem, toList_inj]
  cases R with
  | true =>
    have := hR.1 rfl
    simp only [Prod.mk.injEq] at this
    obtain ⟨rfl, rfl⟩ := this
    simp
  | false =>
    by_cases h4 : t = t'
    · by_cases h1 : p = p'
      · exact absurd (hR.2 (by rw [h1, h4])) (by simp)
      · simp [h1, h4]
    · simp [h4]

def ResM (m k : Md) (w : World) (e : Ending) (w' : World) : Prop := ∃ r, e = .returned (.bool r) ∧ (r = true ↔ m = k) ∧ Below w.heap.size w w'

/-- two modules in their boxes -/
structure TwoM (w : World) (B g g' : Nat) (m k : Md) (s1 s2 s3 t1 t2 t3 : Value) (a1 : Option Addr) (c1 : Nat) (a2 : Option Addr) (c2 : Nat) (a3 : Option Addr) (c3 : Nat) (b1 : Option Addr) (f1 : Nat) (b2 : Option Addr) (f2 : Nat) (b3 : Option Addr) (f3 : Nat) : Prop where
  box : w.heap[g]? = some (.cells #[s1, s2, s3] 28 (0, 0))
  box' : w.heap[g']? = some (.cells #[t1, t2, t3] 28 (0, 0))
  mod : IsM w (fun b => b < B) m a1 c1 a2 c2 a3 c3
  mod' : IsM w (fun b => b < B) k b1 f1 b2 f2 b3 f3
  low : B ≤ w.heap.size

theorem TwoM.later {w w' : World} {B g g' : Nat} {m k : Md} {s1 s2 s3 t1 t2 t3 : Value} {a1 a2 a3 b1 b2 b3 : Option Addr} {c1 c2 c3 f1 f2 f3 : Nat} (h : TwoM w B g g' m k s1 s2 s3 t1 t2 t3 a1 c1 a2 c2 a3 c3 b1 f1 b2 f2 b3 f3) (hb : Below w.heap.size w w') : TwoM w' B g g' m k s1 s2 s3 t1 t2 t3 a1 c1 a2 c2 a3 c3 b1 f1 b2 f2 b3 f3 :=
  ⟨(hb.block g (lt_of_row h.box)).trans h.box, (hb.block g' (lt_of_row h.box')).trans h.box', h.mod.later (hb.mono h.low), h.mod'.later (hb.mono h.low), Nat.le_trans h.low hb.size⟩

theorem beqI {a b : Int} (h : a ≠ b) : (a == b) = false := beq_eq_false_iff_ne.2 h

set_option maxRecDepth 100000 in
set_option maxHeartbeats 4000000 in
theorem sameM_any (m k : Md) (a1 a2 a3 b1 b2 b3 : Option Addr) (n1 c1 n2 c2 n3 c3 l1 f1 l2 f2 l3 f3 B : Nat) (w : World) (hn1 : m.cs.length = n1) (hn2 : m.fs.length = n2) (hn3 : m.xs.length = n3) (hl1 : k.cs.length = l1) (hl2 : k.fs.length = l2) (hl3 : k.xs.length = l3)
    (h : IsM w (fun b => b < B) m a1 c1 a2 c2 a3 c3) (h' : IsM w (fun b => b < B) k b1 f1 b2 f2 b3 f3) (hB : B ≤ w.heap.size) :
    Calls Try.prog 9 #[.agg #[.slice a1 n1 c1, .slice a2 n2 c2, .slice a3 n3 c3], .agg #[.slice b1 l1 f1, .slice b2 l2 f2, .slice b3 l3 f3]] w fun e w' => ResM m k w e w' := by
  have HL := h.len
  have HL' := h'.len
  rw [hn1, hn2, hn3] at HL
  rw [hl1, hl2, hl3] at HL'
  obtain ⟨z1, z2, z3⟩ := HL
  obtain ⟨y1, y2, y3⟩ := HL'
  obtain ⟨g, hg⟩ : ∃ g, w.heap.size = g := ⟨_, rfl⟩
  have BX := BoxN.mk' w #[.slice a1 n1 c1, .slice a2 n2 c2, .slice a3 n3 c3] 28
  obtain ⟨w1, hw1⟩ : ∃ w1, w.alloc (.cells #[.slice a1 n1 c1, .slice a2 n2 c2, .slice a3 n3 c3] 28) = w1 := ⟨_, rfl⟩
  rw [hw1] at BX
  obtain ⟨g', hg'⟩ : ∃ g', w1.heap.size = g' := ⟨_, rfl⟩
  have BY := BoxN.mk' w1 #[.slice b1 l1 f1, .slice b2 l2 f2, .slice b3 l3 f3] 28
  obtain ⟨w2, hw2⟩ : ∃ w2, w1.alloc (.cells #[.slice b1 l1 f1, .slice b2 l2 f2, .slice b3 l3 f3] 28) = w2 := ⟨_, rfl⟩
  rw [hw2] at BY
  have H2 : Hid (TwoM w2 B g g' m k (.slice a1 n1 c1) (.slice a2 n2 c2) (.slice a3 n3 c3) (.slice b1 l1 f1) (.slice b2 l2 f2) (.slice b3 l3 f3) a1 c1 a2 c2 a3 c3 b1 f1 b2 f2 b3 f3 ∧ Below w.heap.size w w2) := hide (by
    have q1 := BX.size
    have q2 : Below w.heap.size w w2 := BX.below.trans (BY.below.mono (by omega))
    exact ⟨⟨(BY.below.block g (by omega)).trans (by rw [← hg]; exact BX.row), by rw [← hg']; exact BY.row, h.later (q2.mono hB), h'.later (q2.mono hB), Nat.le_trans hB q2.size⟩, q2⟩)
  have HN : Hid ((m.cs.length = n1 ∧ m.fs.length = n2 ∧ m.xs.length = n3) ∧ k.cs.length = l1 ∧ k.fs.length = l2 ∧ k.xs.length = l3) := hide ⟨⟨hn1, hn2, hn3⟩, hl1, hl2, hl3⟩
  have HG := hide hg
  obtain ⟨m0, m1, m2⟩ := row_cell3 (unhide H2).1.box
  obtain ⟨m3, m4, m5⟩ := row_cell3 (unhide H2).1.box'
  clear h h' hB BX BY hn1 hn2 hn3 hl1 hl2 hl3
  by_cases e1 : n1 = l1
  case neg =>
    have HF : Hid (¬ m = k) := hide (fun e => by have := unhide HN; subst e; omega)
    have k1 := beqI (show (n1 : Int) ≠ (l1 : Int) by omega)
    have k1' : ¬ (n1 : Int) = (l1 : Int) := by omega
    go_enter Try.func9, Try.ntmps9
    go_wp2_with fail
    go_ret
    exact ⟨false, rfl, ⟨(fun h => by cases h), fun h => absurd h (unhide HF)⟩, by first | exact (unhide H2).2 | (rw [← unhide HG]; exact (unhide H2).2)⟩
  subst e1
  by_cases e2 : n2 = l2
  case neg =>
    have HF : Hid (¬ m = k) := hide (fun e => by have := unhide HN; subst e; omega)
    have k2 := beqI (show (n2 : Int) ≠ (l2 : Int) by omega)
    have k2' : ¬ (n2 : Int) = (l2 : Int) := by omega
    go_enter Try.func9, Try.ntmps9
    go_wp2_with fail
    go_ret
    exact ⟨false, rfl, ⟨(fun h => by cases h), fun h => absurd h (unhide HF)⟩, by first | exact (unhide H2).2 | (rw [← unhide HG]; exact (unhide H2).2)⟩
  subst e2
  by_cases e3 : n3 = l3
  case neg =>
    have HF : Hid (¬ m = k) := hide (fun e => by have := unhide HN; subst e; omega)
    have k3 := beqI (show (n3 : Int) ≠ (l3 : Int) by omega)
    have k3' : ¬ (n3 : Int) = (l3 : Int) := by omega
    go_enter Try.func9, Try.ntmps9
    go_wp2_with fail
    go_ret
    exact ⟨false, rfl, ⟨(fun h => by cases h), fun h => absurd h (unhide HF)⟩, by first | exact (unhide H2).2 | (rw [← unhide HG]; exact (unhide H2).2)⟩
  subst e3
  go_enter Try.func9, Try.ntmps9
  go_wp2_with fail
  clear m0 m1 m2 m3 m4 m5
  go_loopw [5] (fun x wr => ∃ (i : Nat), x = .int .i64 (i : Int) ∧ Hid (i ≤ n1) ∧ Hid (TwoM wr B g g' m k (.slice a1 n1 c1) (.slice a2 n2 c2) (.slice a3 n3 c3) (.slice b1 n1 f1) (.slice b2 n2 f2) (.slice b3 n3 f3) a1 c1 a2 c2 a3 c3 b1 f1 b2 f2 b3 f3 ∧ Below w.heap.size w wr) ∧ Hid (m.cs.take i = k.cs.take i)) (fun x _ => n1 - (intOf x).toNat)
  case atStart => exact ⟨0, rfl, hide (by omega), H2, hide (by simp)⟩
  case round =>
    clear H2
    obtain ⟨i, rfl, HI, HS, HA⟩ := hrel
    obtain ⟨m0, m1, m2⟩ := row_cell3 (unhide HS).1.box
    obtain ⟨m3, m4, m5⟩ := row_cell3 (unhide HS).1.box'
    by_cases hlt : i < n1
    · have j1 : (i : Int) < (n1 : Int) := by omega
      have HI1 : Hid (i + 1 ≤ n1) := hide (by omega)
      obtain ⟨v, hv⟩ : ∃ v, m.cs[i]? = some v := ⟨_, List.getElem?_eq_getElem (by have := unhide HN; omega)⟩
      obtain ⟨v', hv'⟩ : ∃ v, k.cs[i]? = some v := ⟨_, List.getElem?_eq_getElem (by have := unhide HN; omega)⟩
      obtain ⟨a, x0, x1, x2, al', ak', ll', m', cl', ck', rfl, _, hc, hp⟩ := (unhide HS).1.mod.const i v hv
      obtain ⟨a', t0, t1, t2, bl', bk', lb', mb', clb', ckb', rfl, _, hd, hp'⟩ := (unhide HS).1.mod'.const i v' hv'
      have vc0 : wr.cell? (a.add (i * 5)) = some (.int .i64 x0) := hc 0 _ rfl
      have vc1 : wr.cell? ⟨(a.add (i * 5)).block, (a.add (i * 5)).off + 1, none⟩ = some (.int .i64 x1) := hc 1 _ rfl
      have vc2 : wr.cell? ⟨(a.add (i * 5)).block, (a.add (i * 5)).off + 2, none⟩ = some (.string x2) := hc 2 _ rfl
      have vc3 : wr.cell? ⟨(a.add (i * 5)).block, (a.add (i * 5)).off + 3, none⟩ = some (.slice al' ll' cl') := hc 3 _ rfl
      have vc4 : wr.cell? ⟨(a.add (i * 5)).block, (a.add (i * 5)).off + 4, none⟩ = some (.slice ak' m' ck') := hc 4 _ rfl
      have vd0 : wr.cell? (a'.add (i * 5)) = some (.int .i64 t0) := hd 0 _ rfl
      have vd1 : wr.cell? ⟨(a'.add (i * 5)).block, (a'.add (i * 5)).off + 1, none⟩ = some (.int .i64 t1) := hd 1 _ rfl
      have vd2 : wr.cell? ⟨(a'.add (i * 5)).block, (a'.add (i * 5)).off + 2, none⟩ = some (.string t2) := hd 2 _ rfl
      have vd3 : wr.cell? ⟨(a'.add (i * 5)).block, (a'.add (i * 5)).off + 3, none⟩ = some (.slice bl' lb' clb') := hd 3 _ rfl
      have vd4 : wr.cell? ⟨(a'.add (i * 5)).block, (a'.add (i * 5)).off + 4, none⟩ = some (.slice bk' mb' ckb') := hd 4 _ rfl
      have S1 : Hid (∀ u, Below wr.heap.size wr u → u.cell? (a.add (i * 5)) = some (.int .i64 x0) ∧ u.cell? ⟨(a.add (i * 5)).block, (a.add (i * 5)).off + 1, none⟩ = some (.int .i64 x1) ∧ u.cell? ⟨(a.add (i * 5)).block, (a.add (i * 5)).off + 2, none⟩ = some (.string x2) ∧ u.cell? ⟨(a.add (i * 5)).block, (a.add (i * 5)).off + 3, none⟩ = some (.slice al' ll' cl') ∧ u.cell? ⟨(a.add (i * 5)).block, (a.add (i * 5)).off + 4, none⟩ = some (.slice ak' m' ck') ∧ u.cell? (a'.add (i * 5)) = some (.int .i64 t0) ∧ u.cell? ⟨(a'.add (i * 5)).block, (a'.add (i * 5)).off + 1, none⟩ = some (.int .i64 t1) ∧ u.cell? ⟨(a'.add (i * 5)).block, (a'.add (i * 5)).off + 2, none⟩ = some (.string t2) ∧ u.cell? ⟨(a'.add (i * 5)).block, (a'.add (i * 5)).off + 3, none⟩ = some (.slice bl' lb' clb') ∧ u.cell? ⟨(a'.add (i * 5)).block, (a'.add (i * 5)).off + 4, none⟩ = some (.slice bk' mb' ckb') ∧ u.cell? ⟨g, 0, none⟩ = some (.slice (some a) n1 c1) ∧ u.cell? ⟨g', 0, none⟩ = some (.slice (some a') n1 f1)) := hide (fun u hu => ⟨cell_later hu vc0, cell_later hu vc1, cell_later hu vc2, cell_later hu vc3, cell_later hu vc4, cell_later hu vd0, cell_later hu vd1, cell_later hu vd2, cell_later hu vd3, cell_later hu vd4, cell_later hu m0, cell_later hu m3⟩)
      have hdr : Below wr.heap.size wr wr.drew := (Below.refl _ _).drew
      have CR := hide (alike_any (dep v) v v' _ _ B wr.drew (Nat.le_refl _) (IsV.mono (hdr.mono (unhide HS).1.low) hp) (IsV.mono (hdr.mono (unhide HS).1.low) hp') (Nat.le_trans (unhide HS).1.low hdr.size))
      have HE := hide (And.intro hv hv')
      obtain ⟨R, hR⟩ : ∃ R, sameB v v' = R := ⟨_, rfl⟩
      rw [hR] at CR
      have HRR := hide hR
      clear hR hc hd hp hp' hv hv' hdr
      go_upto_region 6 with fail
      go_region_held3 (fun u => u.cell? (a.add (i * 5)) = some (.int .i64 x0) ∧ u.cell? ⟨(a.add (i * 5)).block, (a.add (i * 5)).off + 1, none⟩ = some (.int .i64 x1) ∧ u.cell? ⟨(a.add (i * 5)).block, (a.add (i * 5)).off + 2, none⟩ = some (.string x2) ∧ u.cell? ⟨(a.add (i * 5)).block, (a.add (i * 5)).off + 3, none⟩ = some (.slice al' ll' cl') ∧ u.cell? ⟨(a.add (i * 5)).block, (a.add (i * 5)).off + 4, none⟩ = some (.slice ak' m' ck') ∧ u.cell? (a'.add (i * 5)) = some (.int .i64 t0) ∧ u.cell? ⟨(a'.add (i * 5)).block, (a'.add (i * 5)).off + 1, none⟩ = some (.int .i64 t1) ∧ u.cell? ⟨(a'.add (i * 5)).block, (a'.add (i * 5)).off + 2, none⟩ = some (.string t2) ∧ u.cell? ⟨(a'.add (i * 5)).block, (a'.add (i * 5)).off + 3, none⟩ = some (.slice bl' lb' clb') ∧ u.cell? ⟨(a'.add (i * 5)).block, (a'.add (i * 5)).off + 4, none⟩ = some (.slice bk' mb' ckb') ∧ u.cell? ⟨g, 0, none⟩ = some (.slice (some a) n1 c1) ∧ u.cell? ⟨g', 0, none⟩ = some (.slice (some a') n1 f1))
        (first | go_keep | (have hb6 := below_drew_of' b5; exact unhide S1 _ hb6))
        (first | (go_at_call 16; refine (unhide CR).mono ?_; rintro e w5 ⟨rfl, b5⟩))
      have HS5 : Hid (TwoM w5 B g g' m k (.slice (some a) n1 c1) (.slice a2 n2 c2) (.slice a3 n3 c3) (.slice (some a') n1 f1) (.slice b2 n2 f2) (.slice b3 n3 f3) (some a) c1 a2 c2 a3 c3 (some a') f1 b2 f2 b3 f3 ∧ Below w.heap.size w w5) := hide (by have hb6 := below_drew_of' b5; exact ⟨(unhide HS).1.later hb6, (unhide HS).2.trans (hb6.mono (unhide HS).2.size)⟩)
      clear b5 S1 HS vc0 vc1 vc2 vc3 vc4 vd0 vd1 vd2 vd3 vd4 m0 m1 m2 m3 m4 m5 CR
      cases R with
      | false =>
        have HF : Hid (¬ m = k) := hide (fun e => by
          obtain ⟨q1, q2⟩ := unhide HE
          rw [e, q2] at q1
          cases q1
          have := unhide HRR
          rw [(sameB_iff v v).2 rfl] at this
          cases this)
        go_wp2_with fail
        go_ret
        exact ⟨false, rfl, ⟨(fun h => by cases h), fun h => absurd h (unhide HF)⟩, by first | exact (unhide HS5).2 | (rw [← unhide HG]; exact (unhide HS5).2)⟩
      | true =>
        have HA1 : Hid (m.cs.take (i + 1) = k.cs.take (i + 1)) := hide (by
          obtain ⟨q1, q2⟩ := unhide HE
          have e2 := (sameB_iff v v').1 (unhide HRR)
          subst e2
          exact take_nextM _ _ i _ q1 q2 (unhide HA))
        go_wp2_with fail
        go_roundw
        case rel => exact ⟨i + 1, by go_num, HI1, HS5, HA1⟩
        case measure => have := unhide HI1; simp [intOf]; omega
    · have j1 : ¬ (i : Int) < (n1 : Int) := by omega
      have HA1 : Hid (m.cs = k.cs) := hide (by
        have := unhide HA
        rw [List.take_of_length_le (by have := unhide HN; omega), List.take_of_length_le (by have := unhide HN; omega)] at this
        exact this)
      clear HA HI
      obtain ⟨i0, hi0⟩ : ∃ i0, (i : Int) = i0 := ⟨_, rfl⟩
      rw [hi0] at j1 ⊢
      clear hi0 hlt
      go_wp2_with fail
      go_loopw [7] (fun x wr => ∃ (i : Nat), x = .int .i64 (i : Int) ∧ Hid (i ≤ n2) ∧ Hid (TwoM wr B g g' m k (.slice a1 n1 c1) (.slice a2 n2 c2) (.slice a3 n3 c3) (.slice b1 n1 f1) (.slice b2 n2 f2) (.slice b3 n3 f3) a1 c1 a2 c2 a3 c3 b1 f1 b2 f2 b3 f3 ∧ Below w.heap.size w wr) ∧ Hid (m.fs.take i = k.fs.take i)) (fun x _ => n2 - (intOf x).toNat)
      case atStart => exact ⟨0, rfl, hide (by omega), HS, hide (by simp)⟩
      case round =>
        clear HS m0 m1 m2 m3 m4 m5
        obtain ⟨i, rfl, HI, HS, HA⟩ := hrel
        obtain ⟨m0, m1, m2⟩ := row_cell3 (unhide HS).1.box
        obtain ⟨m3, m4, m5⟩ := row_cell3 (unhide HS).1.box'
        by_cases hlt : i < n2
        · have j2 : (i : Int) < (n2 : Int) := by omega
          have HI1 : Hid (i + 1 ≤ n2) := hide (by omega)
          obtain ⟨⟨p, l, s, t⟩, hv⟩ : ∃ v, m.fs[i]? = some v := ⟨_, List.getElem?_eq_getElem (by have := unhide HN; omega)⟩
          obtain ⟨⟨p', l', s', t'⟩, hv'⟩ : ∃ v, k.fs[i]? = some v := ⟨_, List.getElem?_eq_getElem (by have := unhide HN; omega)⟩
          obtain ⟨a, rfl, _, _, q0, q1, q2, q3⟩ := (unhide HS).1.mod.func i p l s t hv
          obtain ⟨a', rfl, _, _, r0, r1, r2, r3⟩ := (unhide HS).1.mod'.func i p' l' s' t' hv'
          have HE := hide (And.intro hv hv')
          obtain ⟨R, hR⟩ : ∃ R : Bool, R = true ↔ ((p, l, s, t) : Fn) = (p', l', s', t') := ⟨decide (((p, l, s, t) : Fn) = (p', l', s', t')), decide_eq_true_iff⟩
          have nq := neq_fn p l s p' l' s' t t' R hR
          have ng := fun (w : World) (x y : Operand) => run_eqGuard_agg (P := Try.prog) w .neq 53 x y #[.int .i64 p, .int .i64 l, .int .i64 s, .string t] #[.int .i64 p', .int .i64 l', .int .i64 s', .string t'] guard_fn
          have HR := hide hR
          clear hv hv' hR
          cases R with
          | true =>
            have HA2 : Hid (m.fs.take (i + 1) = k.fs.take (i + 1)) := hide (by
              obtain ⟨y1, y2⟩ := unhide HE
              have e2 := (unhide HR).1 rfl
              rw [← e2] at y2
              exact take_nextM _ _ i _ y1 y2 (unhide HA))
            have HS5 : Hid (∀ n, TwoM (wr.drewN n) B g g' m k (.slice a1 n1 c1) (.slice (some a) n2 c2) (.slice a3 n3 c3) (.slice b1 n1 f1) (.slice (some a') n2 f2) (.slice b3 n3 f3) a1 c1 (some a) c2 a3 c3 b1 f1 (some a') f2 b3 f3 ∧ Below w.heap.size w (wr.drewN n)) := hide (fun n => ⟨(unhide HS).1.later (below_drewN (Below.refl _ _) n), below_drewN (unhide HS).2 n⟩)
            go_upto_region 12 with fail
            go_quiet (fail)
            go_wp2_with fail
            go_roundw
            case rel => exact ⟨i + 1, by go_num, HI1, hide (unhide HS5 _), HA2⟩
            case measure => have := unhide HI1; simp [intOf]; omega
          | false =>
            have HF : Hid (¬ m = k) := hide (fun e => by
              obtain ⟨y1, y2⟩ := unhide HE
              rw [e, y2] at y1
              have e3 := (unhide HR).2 (Option.some.inj y1).symm
              cases e3)
            have HS5 : Hid (∀ n, Below w.heap.size w (wr.drewN n)) := hide (fun n => below_drewN (unhide HS).2 n)
            go_upto_region 12 with fail
            go_quiet (fail)
            go_wp2_with fail
            go_ret
            exact ⟨false, rfl, ⟨(fun h => by cases h), fun h => absurd h (unhide HF)⟩, by first | exact unhide HS5 _ | (rw [← unhide HG]; exact unhide HS5 _)⟩
        · have j2 : ¬ (i : Int) < (n2 : Int) := by omega
          have HA2 : Hid (m.fs = k.fs) := hide (by
            have := unhide HA
            rw [List.take_of_length_le (by have := unhide HN; omega), List.take_of_length_le (by have := unhide HN; omega)] at this
            exact this)
          clear HA HI
          obtain ⟨i1, hi1⟩ : ∃ i1, (i : Int) = i1 := ⟨_, rfl⟩
          rw [hi1] at j2 ⊢
          clear hi1 hlt
          go_wp2_with fail
          go_loopw [8] (fun x wr => ∃ (i : Nat), x = .int .i64 (i : Int) ∧ Hid (i ≤ n3) ∧ Hid (TwoM wr B g g' m k (.slice a1 n1 c1) (.slice a2 n2 c2) (.slice a3 n3 c3) (.slice b1 n1 f1) (.slice b2 n2 f2) (.slice b3 n3 f3) a1 c1 a2 c2 a3 c3 b1 f1 b2 f2 b3 f3 ∧ Below w.heap.size w wr) ∧ Hid (m.xs.take i = k.xs.take i)) (fun x _ => n3 - (intOf x).toNat)
          case atStart => exact ⟨0, rfl, hide (by omega), HS, hide (by simp)⟩
          case round =>
            clear HS m0 m1 m2 m3 m4 m5
            obtain ⟨i, rfl, HI, HS, HA⟩ := hrel
            obtain ⟨m0, m1, m2⟩ := row_cell3 (unhide HS).1.box
            obtain ⟨m3, m4, m5⟩ := row_cell3 (unhide HS).1.box'
            by_cases hlt : i < n3
            · have j3 : (i : Int) < (n3 : Int) := by omega
              have HI1 : Hid (i + 1 ≤ n3) := hide (by omega)
              obtain ⟨⟨t, p⟩, hv⟩ : ∃ v, m.xs[i]? = some v := ⟨_, List.getElem?_eq_getElem (by have := unhide HN; omega)⟩
              obtain ⟨⟨t', p'⟩, hv'⟩ : ∃ v, k.xs[i]? = some v := ⟨_, List.getElem?_eq_getElem (by have := unhide HN; omega)⟩
              obtain ⟨a, rfl, _, _, q0, q1⟩ := (unhide HS).1.mod.exp i t p hv
              obtain ⟨a', rfl, _, _, r0, r1⟩ := (unhide HS).1.mod'.exp i t' p' hv'
              have HE := hide (And.intro hv hv')
              obtain ⟨R, hR⟩ : ∃ R : Bool, R = true ↔ ((t, p) : Ex) = (t', p') := ⟨decide (((t, p) : Ex) = (t', p')), decide_eq_true_iff⟩
              have nq := neq_ex p p' t t' R hR
              have ng := fun (w : World) (x y : Operand) => run_eqGuard_agg (P := Try.prog) w .neq 55 x y #[.string t, .int .i64 p] #[.string t', .int .i64 p'] guard_ex
              have HR := hide hR
              clear hv hv' hR
              cases R with
              | true =>
                have HA3 : Hid (m.xs.take (i + 1) = k.xs.take (i + 1)) := hide (by
                  obtain ⟨y1, y2⟩ := unhide HE
                  have e2 := (unhide HR).1 rfl
                  rw [← e2] at y2
                  exact take_nextM _ _ i _ y1 y2 (unhide HA))
                have HS5 : Hid (∀ n, TwoM (wr.drewN n) B g g' m k (.slice a1 n1 c1) (.slice a2 n2 c2) (.slice (some a) n3 c3) (.slice b1 n1 f1) (.slice b2 n2 f2) (.slice (some a') n3 f3) a1 c1 a2 c2 (some a) c3 b1 f1 b2 f2 (some a') f3 ∧ Below w.heap.size w (wr.drewN n)) := hide (fun n => ⟨(unhide HS).1.later (below_drewN (Below.refl _ _) n), below_drewN (unhide HS).2 n⟩)
                go_upto_region 17 with fail
                go_quiet (fail)
                go_wp2_with fail
                go_roundw
                case rel => exact ⟨i + 1, by go_num, HI1, hide (unhide HS5 _), HA3⟩
                case measure => have := unhide HI1; simp [intOf]; omega
              | false =>
                have HF : Hid (¬ m = k) := hide (fun e => by
                  obtain ⟨y1, y2⟩ := unhide HE
                  rw [e, y2] at y1
                  have e3 := (unhide HR).2 (Option.some.inj y1).symm
                  cases e3)
                have HS5 : Hid (∀ n, Below w.heap.size w (wr.drewN n)) := hide (fun n => below_drewN (unhide HS).2 n)
                go_upto_region 17 with fail
                go_quiet (fail)
                go_wp2_with fail
                go_ret
                exact ⟨false, rfl, ⟨(fun h => by cases h), fun h => absurd h (unhide HF)⟩, by first | exact unhide HS5 _ | (rw [← unhide HG]; exact unhide HS5 _)⟩
            · have j3 : ¬ (i : Int) < (n3 : Int) := by omega
              have HF : Hid (m = k) := hide (by
                have := unhide HA
                rw [List.take_of_length_le (by have := unhide HN; omega), List.take_of_length_le (by have := unhide HN; omega)] at this
                have x1 := unhide HA1
                have x2 := unhide HA2
                cases m
                cases k
                simp_all)
              go_wp2_with fail
              go_ret
              exact ⟨true, rfl, ⟨fun _ => unhide HF, fun _ => rfl⟩, by first | exact (unhide HS).2 | (rw [← unhide HG]; exact (unhide HS).2)⟩
end Go.Proofs.Ytfdnhpmldnmncaa
