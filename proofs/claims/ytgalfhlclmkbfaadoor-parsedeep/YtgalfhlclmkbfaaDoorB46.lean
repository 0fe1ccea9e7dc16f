/-
  Layer 17 (parse): a tree's cells; the walk of the law's shown; conditions: what the variables of strconv hold.
  Layer 17 (parse): All, Program and Expr as the laws call them; conditions: what the variables of strconv hold.
  Layer 17 (parse): the walks of the law's repeated and tail; no conditions.
  The walk of ParseDeep, kind 0; conditions: what the variables of strconv hold.
-/
import Derived.Test.YtgalfhlclmkbfaaDoorB45
import Derived.Test.YtgalfhlclmkbfaaDoorB06
import Derived.Test.YtgalfhlclmkbfaaDoorB08
set_option linter.unusedVariables false
set_option linter.unusedSimpArgs false
namespace Go.Proofs.YtgalfhlclmkbfaaDoor
open Go.RowKit
set_option linter.unusedVariables false
set_option linter.unusedSimpArgs false

theorem one_of {lo : Nat} {w : World} {k' : Nat} {t' : List UInt8} {vk' vn' : Nat} {vs' : List UInt8} {f' : Bool} {ks' : List Nd} {p' : Nat} {k : Nat} {t : List UInt8} {vk vn : Nat} {vs : List UInt8} {f : Bool} {n : Nat} {ak : Option Addr} {ck p : Nat} {S : List Nat}
    (h : NdOk lo w [⟨k', t', vk', vn', vs', f', ks', p'⟩] (ndC k t vk vn vs f n ak ck p) S) : k = k' ∧ t = t' ∧ vk = vk' ∧ vn = vn' ∧ vs = vs' ∧ f = f' ∧ n = ks'.length ∧ p = p' := by
  have hn := h.nl
  simp only [IsNL] at hn
  obtain ⟨ak1, ck1, C', R, S1, S2, hC, hS, ho, h1, h2, h3⟩ := hn
  subst h2 h3
  simp only [ndC, List.append_nil, List.cons.injEq, Value.int.injEq, Value.string.injEq, Value.slice.injEq, Value.bool.injEq, true_and, and_true] at hC
  obtain ⟨e1, e2, e3, e4, e5, e6, ⟨e7, e8, e9⟩, e10⟩ := hC
  exact ⟨by omega, bA_inj.1 e2, by omega, by omega, bA_inj.1 e5, e6, by omega, by omega⟩

def tsX : List Tk := [⟨3, [], 1, 0⟩, ⟨5, [43], 0, 2⟩, ⟨1, [120], 0, 4⟩, endT 5]
def ndX : Nd := ⟨17, [43], 0, 0, [], false, [⟨13, [], 2, 1, [], false, [], 0⟩, nd0 14 [120] [] 4], 2⟩
theorem pgX : PgOf 0 [49, 32, 43, 32, 120] (.ok ([ndX], [endT 5])) := .inr ⟨tsX, 60, by kernel_rfl, by kernel_rfl⟩

/-- a node as the program gives it -/
def vN (k : Nat) (t : List UInt8) (vk vn : Nat) (vs : List UInt8) (f : Bool) (n : Nat) (ak : Option Addr) (ck p : Nat) : Array Value := #[.int .i64 (k : Int), .string (bA t), .int .i64 (vk : Int), .int .i64 (vn : Int), .string (bA vs), .slice none 0 0, .slice none 0 0, .bool f, .slice ak n ck, .int .i64 (p : Int)]

/-- what Program and Expr answer: a tree -/
theorem TrR.yes {w : World} {k' : Nat} {t' : List UInt8} {vk' vn' : Nat} {vs' : List UInt8} {f' : Bool} {ks' : List Nd} {p' : Nat} {l : List Tk} {e : Ending} {w' : World} (hl : (hdT l).k = 0) (h : TrR w (.ok ([⟨k', t', vk', vn', vs', f', ks', p'⟩], l)) e w') :
    ∃ (ak : Option Addr) (ck : Nat) (S : List Nat), e = .returned (.tuple #[.agg #[.int .i64 (k' : Int), .string (bA t'), .int .i64 (vk' : Int), .int .i64 (vn' : Int), .string (bA vs'), .slice none 0 0, .slice none 0 0, .bool f', .slice ak ks'.length ck, .int .i64 (p' : Int)], .int .i64 0, .int .i64 0]) ∧ NdOk w.heap.size w' [⟨k', t', vk', vn', vs', f', ks', p'⟩] (ndC k' t' vk' vn' vs' f' ks'.length ak ck p') S := by
  obtain ⟨k, t, vk, vn, vs, f, n, ak, ck, p, pl, er, S, rfl, h⟩ := h
  obtain ⟨rfl, rfl, _, h2⟩ := (unhide h).1 hl
  obtain ⟨rfl, rfl, rfl, rfl, rfl, rfl, rfl, rfl⟩ := one_of h2
  exact ⟨ak, ck, S, rfl, h2⟩
/-- or an error and its place -/
theorem TrR.no {w : World} {a q : Nat} {e : Ending} {w' : World} (h : TrR w (.error (a, q)) e w') :
    e = .returned (.tuple #[.agg #[.int .i64 0, .string ⟨#[]⟩, .int .i64 0, .int .i64 0, .string ⟨#[]⟩, .slice none 0 0, .slice none 0 0, .bool false, .slice none 0 0, .int .i64 0], .int .i64 (q : Int), .int .i64 (a : Int)]) := by
  obtain ⟨k, t, vk, vn, vs, f, n, ak, ck, p, pl, er, S, rfl, h⟩ := h
  obtain ⟨⟨rfl, rfl, rfl, rfl, rfl, rfl, rfl, rfl, rfl, rfl⟩, rfl, rfl⟩ := unhide h
  rfl

theorem bx (u : World) (c : Array Value) (T : TypeId) : (u.alloc (.cells c T)).heap[u.heap.size]? = some (.cells c T (0, 0)) ∧ Below u.heap.size u (u.alloc (.cells c T)) := ⟨heap_alloc_new _ _, (Below.refl _ _).alloc (Nat.le_refl _) _⟩
theorem one_ne {a b : Int} (h : a = b) : (a == b) = true := by simpa using h

set_option maxRecDepth 100000 in
set_option maxHeartbeats 1000000 in
theorem shown_any (w : World) (he : Ev w) (hw6 : 5 < w.heap.size) :
    Calls Tryd.prog 5 #[] w fun e w' => e = .returned (.bool true) ∧ Below w.heap.size w w' := by
  have CE := hide (expr_any ⟨#[49, 32, 43, 32, 120]⟩ w he hw6 pgX)
  clear he hw6
  go_enter Tryd.func5, Tryd.ntmps5
  go_wp2_with fail
  refine (unhide CE).mono ?_
  rintro e u ⟨h1, b1⟩
  obtain ⟨ak, ck, S, rfl, hS⟩ := TrR.yes rfl h1
  clear h1 hS CE
  have B1 := hide b1
  clear b1
  obtain ⟨A2, B2⟩ := bx u #[.int .i64 17, .string (bA [43]), .int .i64 0, .int .i64 0, .string (bA []), .slice none 0 0, .slice none 0 0, .bool false, .slice ak 2 ck, .int .i64 2] 33
  obtain ⟨w2, hw2⟩ : ∃ w2, u.alloc (.cells #[.int .i64 17, .string (bA [43]), .int .i64 0, .int .i64 0, .string (bA []), .slice none 0 0, .slice none 0 0, .bool false, .slice ak 2 ck, .int .i64 2] 33) = w2 := ⟨_, rfl⟩
  rw [hw2] at A2 B2
  obtain ⟨r0, r1, r2, r3, r4, r5, r6, r7, r8, r9⟩ := row_cell10 A2
  have HB : Hid (Below w.heap.size w w2) := hide ((unhide B1).trans (B2.mono (unhide B1).size))
  have HW := hide hw2
  clear A2 B2 hw2 B1
  go_upto_region 2 with fail
  rw [unhide HW]
  clear HW
  have q1 : ((bA [43]).toList == [43]) = true := by kernel_rfl
  obtain ⟨g, hg⟩ : ∃ g, u.heap.size = g := ⟨_, rfl⟩
  rw [hg] at r0 r1 r2 r3 r4 r5 r6 r7 r8 r9 ⊢
  clear hg
  go_wp2_with fail
  go_ret
  exact ⟨rfl, unhide HB⟩
end Go.Proofs.YtgalfhlclmkbfaaDoor

namespace Go.Proofs.YtgalfhlclmkbfaaDoor
open Go.RowKit
set_option linter.unusedVariables false
set_option linter.unusedSimpArgs false

/-- All, where it gives tokens -/
theorem all_toks (s : ByteArray) (ts : List Tk) (w : World) (he : Ev w) (hw6 : 5 < w.heap.size) (h : allT s.data.toList = .ok ts) (N : Nat) (hN : ts.length = N + 1) :
    Calls Tryd.prog 6 #[.string s] w fun e w' => ∃ b c, e = .returned (.tuple #[.slice (some ⟨b, 0, none⟩) (N + 1) c, .int .i64 0, .int .i64 0]) ∧ N + 1 ≤ c ∧ w.heap.size ≤ b ∧ c ≤ maxLen ∧ Hid (w'.ownsRow w.heap.size 37 4 (.slice (some ⟨b, 0, none⟩) (N + 1) c) (N + 1) (flT ts) ∧ TR w' (some ⟨b, 0, none⟩) ts ∧ Below w.heap.size w w') := by
  have hA := all_any s w he hw6
  rw [h] at hA
  refine hA.mono ?_
  rintro e w' ⟨⟨v, rfl, hown⟩, hb⟩
  rw [hN] at hown
  obtain ⟨ao, c, rfl, hs1, hs2, hs3, hs4⟩ := slice_form hown
  have ht := TR.of hown hN
  obtain ⟨t, ht0⟩ : ∃ t, ts[0]? = some t := ⟨_, List.getElem?_eq_getElem (by omega)⟩
  obtain ⟨b, rfl, _⟩ := ht 0 t ht0
  exact ⟨b, c, rfl, hs2, (hown.lt b (hs4 _ rfl).1).1, hs3, hide ⟨hown, ht, hb⟩⟩

/-- All, where it gives an error -/
theorem all_bad (s : ByteArray) (p er : Nat) (w : World) (he : Ev w) (hw6 : 5 < w.heap.size) (h : allT s.data.toList = .error (p, er)) :
    Calls Tryd.prog 6 #[.string s] w fun e w' => e = .returned (.tuple #[.slice none 0 0, .int .i64 (p : Int), .int .i64 (er : Int)]) ∧ Below w.heap.size w w' := by
  have hA := all_any s w he hw6
  rw [h] at hA
  exact hA

theorem TR.at {w : World} {b i : Nat} {ts : List Tk} {t : Tk} (h : TR w (some ⟨b, 0, none⟩) ts) (ht : ts[i]? = some t) : b < w.heap.size ∧ w.cell? ⟨b, i * 4, none⟩ = some (.int .i64 (t.k : Int)) ∧ w.cell? ⟨b, i * 4 + 1, none⟩ = some (.string (bA t.t)) ∧ w.cell? ⟨b, i * 4 + 2, none⟩ = some (.int .i64 (t.n : Int)) ∧ w.cell? ⟨b, i * 4 + 3, none⟩ = some (.int .i64 (t.p : Int)) := by
  obtain ⟨b', e, h1, h2, h3, h4, h5⟩ := h i t ht
  cases e
  exact ⟨h1, h2, h3, h4, h5⟩

theorem Ev.later {B : Nat} {w u : World} (h : Ev w) (hw : 5 < w.heap.size) (hb : Below w.heap.size w u) : Ev u ∧ 5 < u.heap.size := ⟨h.below hb hw, Nat.lt_of_lt_of_le hw hb.size⟩

theorem bA_nil : bA [] = ⟨#[]⟩ := rfl


/-- the error of an answer, and its place -/
def erOf (r : Rs (List Nd)) : Nat × Nat := match r with
  | .error (a, q) => (a, q)
  | .ok (_, l) => if (hdT l).k = 0 then (0, 0) else (170, (hdT l).p)
theorem TrR.er {w : World} {r : Rs (List Nd)} {e : Ending} {w' : World} (h : TrR w r e w') {E P : Nat} (hr : erOf r = (E, P)) :
    ∃ (k : Nat) (t : List UInt8) (vk vn : Nat) (vs : List UInt8) (f : Bool) (n : Nat) (ak : Option Addr) (ck p : Nat), e = .returned (.tuple #[.agg #[.int .i64 (k : Int), .string (bA t), .int .i64 (vk : Int), .int .i64 (vn : Int), .string (bA vs), .slice none 0 0, .slice none 0 0, .bool f, .slice ak n ck, .int .i64 (p : Int)], .int .i64 (P : Int), .int .i64 (E : Int)]) := by
  obtain ⟨k, t, vk, vn, vs, f, n, ak, ck, p, pl, er, S, rfl, h⟩ := h
  refine ⟨k, t, vk, vn, vs, f, n, ak, ck, p, ?_⟩
  replace h := unhide h
  match r, h, hr with
  | .error (a, q), h, hr =>
    obtain ⟨_, rfl, rfl⟩ := h
    cases hr
    rfl
  | .ok (ns, l), h, hr =>
    unfold erOf at hr
    by_cases hk : (hdT l).k = 0
    · simp only [hk, if_true] at hr
      cases hr
      obtain ⟨rfl, rfl, _⟩ := h.1 hk
      rfl
    · simp only [hk, if_false] at hr
      cases hr
      obtain ⟨_, rfl, rfl⟩ := h.2 hk
      rfl
theorem program_er (s : ByteArray) (w : World) (he : Ev w) (hw6 : 5 < w.heap.size) {r : Rs (List Nd)} (h : PgOf 27 s.data.toList r) {E P : Nat} (hr : erOf r = (E, P)) :
    Calls Tryd.prog 7 #[.string s] w fun e w' => ∃ (k : Nat) (t : List UInt8) (vk vn : Nat) (vs : List UInt8) (f : Bool) (n : Nat) (ak : Option Addr) (ck p : Nat), e = .returned (.tuple #[.agg #[.int .i64 (k : Int), .string (bA t), .int .i64 (vk : Int), .int .i64 (vn : Int), .string (bA vs), .slice none 0 0, .slice none 0 0, .bool f, .slice ak n ck, .int .i64 (p : Int)], .int .i64 (P : Int), .int .i64 (E : Int)]) ∧ Below w.heap.size w w' :=
  (program_any s w he hw6 h).mono (fun e w' h => by
    obtain ⟨k, t, vk, vn, vs, f, n, ak, ck, p, e⟩ := h.1.er hr
    exact ⟨k, t, vk, vn, vs, f, n, ak, ck, p, e, h.2⟩)
theorem expr_er (s : ByteArray) (w : World) (he : Ev w) (hw6 : 5 < w.heap.size) {r : Rs (List Nd)} (h : PgOf 0 s.data.toList r) {E P : Nat} (hr : erOf r = (E, P)) :
    Calls Tryd.prog 9 #[.string s] w fun e w' => ∃ (k : Nat) (t : List UInt8) (vk vn : Nat) (vs : List UInt8) (f : Bool) (n : Nat) (ak : Option Addr) (ck p : Nat), e = .returned (.tuple #[.agg #[.int .i64 (k : Int), .string (bA t), .int .i64 (vk : Int), .int .i64 (vn : Int), .string (bA vs), .slice none 0 0, .slice none 0 0, .bool f, .slice ak n ck, .int .i64 (p : Int)], .int .i64 (P : Int), .int .i64 (E : Int)]) ∧ Below w.heap.size w w' :=
  (expr_any s w he hw6 h).mono (fun e w' h => by
    obtain ⟨k, t, vk, vn, vs, f, n, ak, ck, p, e⟩ := h.1.er hr
    exact ⟨k, t, vk, vn, vs, f, n, ak, ck, p, e, h.2⟩)
end Go.Proofs.YtgalfhlclmkbfaaDoor

namespace Go.Proofs.YtgalfhlclmkbfaaDoor
open Go.RowKit
set_option linter.unusedVariables false
set_option linter.unusedSimpArgs false

theorem bA_app (a b : List UInt8) : bA a ++ bA b = bA (a ++ b) := by
  apply bA_eq
  rw [ByteArray.data_append, Array.toList_append, bA_data, bA_data]

set_option maxRecDepth 100000 in
set_option maxHeartbeats 1000000 in
theorem repeated_any (o : List UInt8) (n : Nat) (w : World) (ho : o.length ≤ 9) (hn : n ≤ 200) :
    Calls Tryd.prog 8 #[.string (bA o), .int .i64 (n : Int)] w fun e w' => e = .returned (.string (bA (rpB o n))) ∧ w' = w := by
  obtain ⟨R, hR⟩ : ∃ R, bA (rpB o n) = R := ⟨_, rfl⟩
  have HR := hide hR
  rw [hR]
  clear hR
  have hos : (bA o).size ≤ 9 := by rw [bA_size]; exact ho
  obtain ⟨O, hO⟩ : ∃ O, bA o = O := ⟨_, rfl⟩
  rw [hO] at hos ⊢
  have HO := hide hO
  clear hO
  go_enter Tryd.func8, Tryd.ntmps8
  go_wp2_with fail
  go_loopw [5, 6] (fun x y wr => ∃ (i : Nat) (S : ByteArray), i ≤ n ∧ y = .int .i64 (i : Int) ∧ x = .string S ∧ S.size ≤ 1800 ∧ Hid (S = bA (rpB o i)) ∧ wr = w) (fun x y _ => n - (intOf y).toNat)
  case atStart => exact ⟨0, ⟨#[]⟩, by omega, rfl, rfl, by decide, hide rfl, rfl⟩
  case round =>
    obtain ⟨i, S, hi, rfl, rfl, hS, HS, hwr⟩ := hrel
    rw [hwr]
    clear hwr
    by_cases hlt : i < n
    · have j1 : (i : Int) < (n : Int) := by omega
      have HS1 : Hid (S ++ O = bA (rpB o (i + 1))) := hide (by rw [unhide HS, ← unhide HO, bA_app, rpB_snoc])
      have HL : Hid ((S ++ O).size ≤ 1800) := hide (by
        rw [unhide HS1, bA_size, rpB_len]
        have h1 : (i + 1) * o.length ≤ 200 * 9 := Nat.mul_le_mul (by omega) ho
        omega)
      have n1 : ¬ 9223372036854775807 < S.size + O.size := by omega
      have HLT := hide hlt
      clear hlt HS
      go_wp2_with fail
      go_roundw
      case rel => exact ⟨i + 1, S ++ O, unhide HLT, by go_num, rfl, unhide HL, HS1, (by first | rfl | trivial)⟩
      case measure => have := unhide HLT; simp [intOf]; omega
    · have j1 : ¬ (i : Int) < (n : Int) := by omega
      have HE : Hid (S = R) := hide (by
        have : i = n := by omega
        rw [unhide HS, this, unhide HR])
      clear hlt HS
      go_wp2_with fail
      go_ret
      exact ⟨by rw [unhide HE]; rfl, rfl⟩

theorem tail_two (w : World) : Calls Tryd.prog 10 #[.int .i64 2] w fun e w' => e = .returned (.int .i64 2) ∧ w' = w := by
  go_enter Tryd.func10, Tryd.ntmps10
  go_wp2_with fail
  go_ret
  exact ⟨rfl, rfl⟩
theorem tail_any (k : Int) (hk : ¬ k = 2) (w : World) : Calls Tryd.prog 10 #[.int .i64 k] w fun e w' => e = .returned (.int .i64 0) ∧ w' = w := by
  have h2 : (k == 2) = false := beq_eq_false_iff_ne.2 hk
  go_enter Tryd.func10, Tryd.ntmps10
  go_wp2_with fail
  go_ret
  exact ⟨rfl, rfl⟩

theorem pg_le (k n : Nat) (hk : k < 6) (hn : n ≤ 24) : ∃ r, PgOf 0 (dpB k n) r ∧ erOf r = (0, 0) := by
  obtain ⟨nd, l, h1, h2⟩ := dp_le k n hk hn
  exact ⟨_, .inr ⟨_, _, dp_all k n (by omega), h1⟩, by unfold erOf; simp only [h2, if_true]⟩
theorem pg_gt (k n : Nat) (hk : k < 6) (hn : 25 ≤ n) (h2 : n ≤ 200) : ∃ r, PgOf 0 (dpB k n) r ∧ erOf r = (171, dpP k) := ⟨_, .inr ⟨_, _, dp_all k n h2, dp_gt k n hk hn⟩, rfl⟩
theorem bl_pg_le (n : Nat) (hn : n ≤ 23) : ∃ r, PgOf 27 (blB n) r ∧ erOf r = (0, 0) := by
  obtain ⟨nd, l, h1, h2⟩ := bl_le n hn
  exact ⟨_, .inr ⟨_, _, bl_all n (by omega), h1⟩, by unfold erOf; simp only [h2, if_true]⟩
theorem bl_pg_gt (n : Nat) (hn : 24 ≤ n) (h2 : n ≤ 200) : ∃ r, PgOf 27 (blB n) r ∧ erOf r = (171, 222) := ⟨_, .inr ⟨_, _, bl_all n h2, bl_gt n hn⟩, rfl⟩
end Go.Proofs.YtgalfhlclmkbfaaDoor

namespace Go.Proofs.YtgalfhlclmkbfaaDoor
open Go.RowKit
set_option linter.unusedVariables false
set_option linter.unusedSimpArgs false

set_option maxRecDepth 100000 in
set_option maxHeartbeats 4000000 in
theorem deep_0f (K : Int) (hK : ¬ K = 1 ∧ ¬ K = 2 ∧ ¬ K = 3 ∧ ¬ K = 4 ∧ ¬ K = 5 ∧ ¬ K = 6) (m : Nat) (h200 : m ≤ 200) (hm : m ≤ 24) (w : World) (he : Ev w) (hw6 : 5 < w.heap.size) :
    Calls Tryd.prog 4 #[.int .i64 (m : Int), .int .i64 K] w fun e w' => e = .returned (.bool true) ∧ Below w.heap.size w w' := by
  have CS := hide (shown_any w he hw6)
  obtain ⟨r, hr, hx⟩ := pg_le 0 m (by decide) hm
  obtain ⟨O, hO⟩ : ∃ O, bA (rpB [40] m) = O := ⟨_, rfl⟩
  obtain ⟨C, hC⟩ : ∃ C, bA (rpB [41] m) = C := ⟨_, rfl⟩
  have so : O.size ≤ 1800 := by
    rw [← hO, bA_size, rpB_len]
    show m * 1 ≤ 1800
    omega
  have sc : C.size ≤ 200 := by
    rw [← hC, bA_size, rpB_len]
    show m * 1 ≤ 200
    omega
  have CO := hide (fun u => repeated_any [40] m u (by decide) h200)
  have CC := hide (fun u => repeated_any [41] m u (by decide) h200)
  rw [hO] at CO
  rw [hC] at CC
  have e1 : bA [40] = ⟨#[40]⟩ := rfl
  have e2 : bA [41] = ⟨#[41]⟩ := rfl
  rw [e1] at CO
  rw [e2] at CC
  have hL : (O ++ ⟨#[49]⟩ ++ C).data.toList = dpB 0 m := by
    rw [← hO, ← hC, ByteArray.data_append, ByteArray.data_append, Array.toList_append, Array.toList_append, bA_data, bA_data]
    show _ = rpB _ m ++ 49 :: rpB _ m
    simp only [List.append_assoc, List.cons_append, List.nil_append]
    rfl
  rw [← hL] at hr
  have n1 : ¬ 9223372036854775807 < O.size + 1 := by omega
  have s1 : (O ++ ⟨#[49]⟩).size = O.size + 1 := by rw [ByteArray.size_append]; rfl
  have n2 : ¬ 9223372036854775807 < O.size + 1 + C.size := by omega
  have CE : Hid (∀ u, Below w.heap.size w u → Calls Tryd.prog 9 #[.string (O ++ ⟨#[49]⟩ ++ C)] u fun e w' => ∃ (k : Nat) (t : List UInt8) (vk vn : Nat) (vs : List UInt8) (f : Bool) (n : Nat) (ak : Option Addr) (ck p : Nat), e = .returned (.tuple #[.agg #[.int .i64 (k : Int), .string (bA t), .int .i64 (vk : Int), .int .i64 (vn : Int), .string (bA vs), .slice none 0 0, .slice none 0 0, .bool f, .slice ak n ck, .int .i64 (p : Int)], .int .i64 0, .int .i64 0]) ∧ Below u.heap.size u w') := hide (fun u hu => expr_er _ u (he.below hu hw6) (Nat.lt_of_lt_of_le hw6 hu.size) hr hx)
  have m1 : ¬ (m : Int) < 0 := by omega
  have m2 : ¬ (200 : Int) < (m : Int) := by omega
  have m3 : (m : Int) ≤ 24 := by omega
  obtain ⟨c1, c2, c3, c4, c5, c6⟩ := hK
  have d1 : (K == 1) = false := beq_eq_false_iff_ne.2 c1
  have d2 : (K == 2) = false := beq_eq_false_iff_ne.2 c2
  have d3 : (K == 3) = false := beq_eq_false_iff_ne.2 c3
  have d4 : (K == 4) = false := beq_eq_false_iff_ne.2 c4
  have d5 : (K == 5) = false := beq_eq_false_iff_ne.2 c5
  have d6 : (K == 6) = false := beq_eq_false_iff_ne.2 c6
  clear he hw6 hr hx hO hC hL e1 e2 hm
  go_enter Tryd.func4, Tryd.ntmps4
  go_wp2_with fail
  refine (unhide CS).mono ?_
  rintro e u1 ⟨rfl, b1⟩
  have B1 := hide b1
  clear b1 CS
  go_wp2_with fail
  refine ((unhide CO) u1).mono ?_
  rintro e u2 ⟨rfl, hu⟩
  subst hu
  go_wp2_with fail
  refine ((unhide CC) _).mono ?_
  rintro e u2 ⟨rfl, hu⟩
  subst hu
  go_wp2_with fail
  refine ((unhide CE) _ (unhide B1)).mono ?_
  rintro e u3 ⟨k, t, vk, vn, vs, f, n, ak, ck, p, rfl, b⟩
  have B3 : Hid (Below w.heap.size w u3) := hide ((unhide B1).trans (b.mono (unhide B1).size))
  clear b
  obtain ⟨Au4, Gu4⟩ := bx u3 #[.int .i64 (k : Int), .string (bA t), .int .i64 (vk : Int), .int .i64 (vn : Int), .string (bA vs), .slice none 0 0, .slice none 0 0, .bool f, .slice ak n ck, .int .i64 (p : Int)] 33
  obtain ⟨u4, hu4⟩ : ∃ u4, u3.alloc (.cells #[.int .i64 (k : Int), .string (bA t), .int .i64 (vk : Int), .int .i64 (vn : Int), .string (bA vs), .slice none 0 0, .slice none 0 0, .bool f, .slice ak n ck, .int .i64 (p : Int)] 33) = u4 := ⟨_, rfl⟩
  rw [hu4] at Au4 Gu4
  have B4 : Hid (Below w.heap.size w u4) := hide ((unhide B3).trans (Gu4.mono (unhide B3).size))
  have Wu4 := hide hu4
  clear Au4 Gu4 hu4
  go_upto_region 30 with fail
  rw [unhide Wu4]
  clear Wu4
  go_wp2_with fail
  go_ret
  exact ⟨rfl, unhide B4⟩

set_option maxRecDepth 100000 in
set_option maxHeartbeats 4000000 in
theorem deep_0m (K : Int) (hK : ¬ K = 1 ∧ ¬ K = 2 ∧ ¬ K = 3 ∧ ¬ K = 4 ∧ ¬ K = 5 ∧ ¬ K = 6) (m : Nat) (h200 : m ≤ 200) (hm : 25 ≤ m) (w : World) (he : Ev w) (hw6 : 5 < w.heap.size) :
    Calls Tryd.prog 4 #[.int .i64 (m : Int), .int .i64 K] w fun e w' => e = .returned (.bool true) ∧ Below w.heap.size w w' := by
  have CS := hide (shown_any w he hw6)
  obtain ⟨r, hr, hx⟩ := pg_gt 0 m (by decide) hm h200
  obtain ⟨O, hO⟩ : ∃ O, bA (rpB [40] m) = O := ⟨_, rfl⟩
  obtain ⟨C, hC⟩ : ∃ C, bA (rpB [41] m) = C := ⟨_, rfl⟩
  have so : O.size ≤ 1800 := by
    rw [← hO, bA_size, rpB_len]
    show m * 1 ≤ 1800
    omega
  have sc : C.size ≤ 200 := by
    rw [← hC, bA_size, rpB_len]
    show m * 1 ≤ 200
    omega
  have CO := hide (fun u => repeated_any [40] m u (by decide) h200)
  have CC := hide (fun u => repeated_any [41] m u (by decide) h200)
  rw [hO] at CO
  rw [hC] at CC
  have e1 : bA [40] = ⟨#[40]⟩ := rfl
  have e2 : bA [41] = ⟨#[41]⟩ := rfl
  rw [e1] at CO
  rw [e2] at CC
  have hL : (O ++ ⟨#[49]⟩ ++ C).data.toList = dpB 0 m := by
    rw [← hO, ← hC, ByteArray.data_append, ByteArray.data_append, Array.toList_append, Array.toList_append, bA_data, bA_data]
    show _ = rpB _ m ++ 49 :: rpB _ m
    simp only [List.append_assoc, List.cons_append, List.nil_append]
    rfl
  rw [← hL] at hr
  have n1 : ¬ 9223372036854775807 < O.size + 1 := by omega
  have s1 : (O ++ ⟨#[49]⟩).size = O.size + 1 := by rw [ByteArray.size_append]; rfl
  have n2 : ¬ 9223372036854775807 < O.size + 1 + C.size := by omega
  have CE : Hid (∀ u, Below w.heap.size w u → Calls Tryd.prog 9 #[.string (O ++ ⟨#[49]⟩ ++ C)] u fun e w' => ∃ (k : Nat) (t : List UInt8) (vk vn : Nat) (vs : List UInt8) (f : Bool) (n : Nat) (ak : Option Addr) (ck p : Nat), e = .returned (.tuple #[.agg #[.int .i64 (k : Int), .string (bA t), .int .i64 (vk : Int), .int .i64 (vn : Int), .string (bA vs), .slice none 0 0, .slice none 0 0, .bool f, .slice ak n ck, .int .i64 (p : Int)], .int .i64 24, .int .i64 171]) ∧ Below u.heap.size u w') := hide (fun u hu => expr_er _ u (he.below hu hw6) (Nat.lt_of_lt_of_le hw6 hu.size) hr hx)
  have m1 : ¬ (m : Int) < 0 := by omega
  have m2 : ¬ (200 : Int) < (m : Int) := by omega
  have m3 : ¬ (m : Int) ≤ 24 := by omega
  obtain ⟨c1, c2, c3, c4, c5, c6⟩ := hK
  have d1 : (K == 1) = false := beq_eq_false_iff_ne.2 c1
  have d2 : (K == 2) = false := beq_eq_false_iff_ne.2 c2
  have d3 : (K == 3) = false := beq_eq_false_iff_ne.2 c3
  have d4 : (K == 4) = false := beq_eq_false_iff_ne.2 c4
  have d5 : (K == 5) = false := beq_eq_false_iff_ne.2 c5
  have d6 : (K == 6) = false := beq_eq_false_iff_ne.2 c6
  have CT := hide (fun u => tail_any K c2 u)
  clear he hw6 hr hx hO hC hL e1 e2 hm
  go_enter Tryd.func4, Tryd.ntmps4
  go_wp2_with fail
  refine (unhide CS).mono ?_
  rintro e u1 ⟨rfl, b1⟩
  have B1 := hide b1
  clear b1 CS
  go_wp2_with fail
  refine ((unhide CO) u1).mono ?_
  rintro e u2 ⟨rfl, hu⟩
  subst hu
  go_wp2_with fail
  refine ((unhide CC) _).mono ?_
  rintro e u2 ⟨rfl, hu⟩
  subst hu
  go_wp2_with fail
  refine ((unhide CE) _ (unhide B1)).mono ?_
  rintro e u3 ⟨k, t, vk, vn, vs, f, n, ak, ck, p, rfl, b⟩
  have B3 : Hid (Below w.heap.size w u3) := hide ((unhide B1).trans (b.mono (unhide B1).size))
  clear b
  obtain ⟨Au4, Gu4⟩ := bx u3 #[.int .i64 (k : Int), .string (bA t), .int .i64 (vk : Int), .int .i64 (vn : Int), .string (bA vs), .slice none 0 0, .slice none 0 0, .bool f, .slice ak n ck, .int .i64 (p : Int)] 33
  obtain ⟨u4, hu4⟩ : ∃ u4, u3.alloc (.cells #[.int .i64 (k : Int), .string (bA t), .int .i64 (vk : Int), .int .i64 (vn : Int), .string (bA vs), .slice none 0 0, .slice none 0 0, .bool f, .slice ak n ck, .int .i64 (p : Int)] 33) = u4 := ⟨_, rfl⟩
  rw [hu4] at Au4 Gu4
  have B4 : Hid (Below w.heap.size w u4) := hide ((unhide B3).trans (Gu4.mono (unhide B3).size))
  have Wu4 := hide hu4
  clear Au4 Gu4 hu4
  go_upto_region 30 with fail
  rw [unhide Wu4]
  clear Wu4
  go_wp2_with fail
  refine ((unhide CT) _).mono ?_
  rintro e u5 ⟨rfl, hu⟩
  subst hu
  go_wp2_with fail
  go_ret
  exact ⟨rfl, unhide B4⟩
end Go.Proofs.YtgalfhlclmkbfaaDoor
