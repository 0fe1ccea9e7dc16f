/-
  Rows of tokens; tokens compared; the walks of the law's same and shown; conditions: what the variables of strconv hold.
-/
import Derived.Test.YtgalfhlclmkbfaaGreatDoorC11
import Derived.Test.YtgalfhlclmkbfaaGreatDoorC13
import Derived.Laws.StructEq
set_option linter.unusedVariables false
set_option linter.unusedSimpArgs false
namespace Go.Proofs.YtgalfhlclmkbfaaGreatDoor
open Go.RowKit
set_option linter.unusedVariables false
set_option linter.unusedSimpArgs false

theorem under_tok : Tryz.prog.underlying 52 = some (.struct (Tryz.prog.fieldsOf 52)) := by kernel_rfl
theorem held_tok : Tryz.prog.stoodInHeld 52 = false := by kernel_rfl
theorem guard_tok : Tryz.prog.eqGuardType Tryz.prog.depth 52 = false := by kernel_rfl

theorem bytes_inj {s t : ByteArray} : s.toList = t.toList ↔ s = t := by
  constructor
  · intro h
    rw [ByteArray.toList_eq, ByteArray.toList_eq] at h
    rw [bA_eq s _ h, bA_self]
  · intro h
    rw [h]

theorem neq_tok (k n p k' n' p' : Int) (t t' : ByteArray) (R : Bool) (hR : R = true ↔ (k = k' ∧ t = t' ∧ n = n' ∧ p = p')) (w : World) : Sem.run Tryz.prog (binOp .neq 52 (.agg #[.int .i64 k, .string t, .int .i64 n, .int .i64 p]) (.agg #[.int .i64 k', .string t', .int .i64 n', .int .i64 p'])) w = .ok (.bool (!R)) w := by
  rw [run_neq_struct, run_equalIn_struct _ _ _ _ _ under_tok held_tok]
  simp [Program.fieldsOf, Tryz.underlying52, Op.eqFields, part, isAgg, run_underlying Tryz.underlying3, run_underlying Tryz.underlying9, run_underlying Tryz.underlying2, go_sem, bytes_inj]
  cases R with
  | true =>
    obtain ⟨rfl, rfl, rfl, rfl⟩ := hR.1 rfl
    simp
  | false =>
    by_cases h1 : k = k'
    · by_cases h2 : t = t'
      · by_cases h3 : n = n'
        · by_cases h4 : p = p'
          · exact absurd (hR.2 ⟨h1, h2, h3, h4⟩) (by simp)
          · simp [h1, h2, h3, h4]
        · simp [h1, h2, h3]
      · simp [h1, h2]
    · simp [h1]

theorem eql_tok (k n p : Int) (t : ByteArray) (w : World) : Sem.run Tryz.prog (binOp .eql 52 (.agg #[.int .i64 k, .string t, .int .i64 n, .int .i64 p]) (.agg #[.int .i64 k, .string t, .int .i64 n, .int .i64 p])) w = .ok (.bool true) w := by
  rw [run_eql_struct, run_equalIn_struct _ _ _ _ _ under_tok held_tok]
  simp [Program.fieldsOf, Tryz.underlying52, Op.eqFields, part, isAgg, run_underlying Tryz.underlying3, run_underlying Tryz.underlying9, run_underlying Tryz.underlying2, go_sem, bytes_inj]

theorem bA_inj {a b : List UInt8} : bA a = bA b ↔ a = b := by
  constructor
  · intro h
    have := congrArg (fun s : ByteArray => s.data.toList) h
    simpa [bA_data] using this
  · intro h
    rw [h]

theorem tk_eq (t u : Tk) : ((t.k : Int) = (u.k : Int) ∧ bA t.t = bA u.t ∧ (t.n : Int) = (u.n : Int) ∧ (t.p : Int) = (u.p : Int)) ↔ t = u := by
  obtain ⟨a, b, c, d⟩ := t
  obtain ⟨a', b', c', d'⟩ := u
  rw [bA_inj]
  simp only [Tk.mk.injEq]
  constructor
  · rintro ⟨h1, h2, h3, h4⟩
    exact ⟨by omega, h2, by omega, by omega⟩
  · rintro ⟨h1, h2, h3, h4⟩
    exact ⟨by omega, h2, by omega, by omega⟩

theorem flT_at : ∀ (ts : List Tk) (i : Nat) (t : Tk) (m : Nat) (x : Value), ts[i]? = some t → (tkL t)[m]? = some x → (flT ts)[i * 4 + m]? = some x
  | [], i, t, m, x, h, _ => by simp at h
  | u :: us, 0, t, m, x, h, hm => by
    simp at h
    subst h
    have hl : m < (tkL u).length := (List.getElem?_eq_some_iff.1 hm).1
    show (tkL u ++ flT us)[0 * 4 + m]? = _
    rw [Nat.zero_mul, Nat.zero_add, List.getElem?_append_left hl]
    exact hm
  | u :: us, i + 1, t, m, x, h, hm => by
    have ih := flT_at us i t m x (by simpa using h) hm
    show (tkL u ++ flT us)[(i + 1) * 4 + m]? = _
    have hl : (tkL u).length = 4 := rfl
    rw [List.getElem?_append_right (by rw [hl]; omega), hl, show (i + 1) * 4 + m - 4 = i * 4 + m by omega]
    exact ih

/-- a row of tokens that can be read -/
def TR (w : World) (ao : Option Addr) (ts : List Tk) : Prop := ∀ (i : Nat) (t : Tk), ts[i]? = some t → ∃ b, ao = some ⟨b, 0, none⟩ ∧ b < w.heap.size ∧ w.cell? ⟨b, i * 4, none⟩ = some (.int .i64 (t.k : Int)) ∧ w.cell? ⟨b, i * 4 + 1, none⟩ = some (.string (bA t.t)) ∧ w.cell? ⟨b, i * 4 + 2, none⟩ = some (.int .i64 (t.n : Int)) ∧ w.cell? ⟨b, i * 4 + 3, none⟩ = some (.int .i64 (t.p : Int))

theorem TR.of {w : World} {B : Nat} {ao : Option Addr} {n c : Nat} {ts : List Tk} (h : w.ownsRow B 52 4 (.slice ao n c) n (flT ts)) (hn : ts.length = n) : TR w ao ts := fun i t ht => by
  have hil : i < ts.length := (List.getElem?_eq_some_iff.1 ht).1
  rcases h.2 with ⟨_, e⟩ | ⟨b, cap, cur, e, hbb, hcur, rest⟩
  · omega
  · injection e with e1 e2 e3
    subst e1
    have hlt : b < w.heap.size := (Array.getElem?_eq_some_iff.1 hcur).1
    have hc : ∀ j x, (flT ts)[j]? = some x → w.cell? ⟨b, j, none⟩ = some x := fun j x hx => by
      have := h.cells (g := b) rfl j x hx
      have ha : (⟨b, 0, none⟩ : Addr).add j = ⟨b, j, none⟩ := by unfold Addr.add; split <;> simp_all
      rwa [ha] at this
    exact ⟨b, rfl, hlt, hc _ _ (flT_at ts i t 0 _ ht rfl), hc _ _ (flT_at ts i t 1 _ ht rfl), hc _ _ (flT_at ts i t 2 _ ht rfl), hc _ _ (flT_at ts i t 3 _ ht rfl)⟩

theorem TR.later {w u : World} {ao : Option Addr} {ts : List Tk} (h : TR w ao ts) (hu : Below w.heap.size w u) : TR u ao ts := fun i t ht => by
  obtain ⟨b, h1, h2, h3, h4, h5, h6⟩ := h i t ht
  exact ⟨b, h1, Nat.lt_of_lt_of_le h2 hu.size, cell_later hu h3, cell_later hu h4, cell_later hu h5, cell_later hu h6⟩

theorem TR.take {w : World} {ao : Option Addr} {ts : List Tk} (h : TR w ao ts) (m : Nat) : TR w ao (ts.take m) := fun i t ht => by
  rw [List.getElem?_take] at ht
  split at ht
  · exact h i t ht
  · cases ht

theorem add_row (b o : Nat) : (⟨b, 0, none⟩ : Addr).add o = ⟨b, o, none⟩ := by unfold Addr.add; split <;> simp_all

/-- what same answers -/
def SameR (ts us : List Tk) (w : World) (e : Ending) (w' : World) : Prop := ∃ r, e = .returned (.bool r) ∧ (r = true ↔ ts = us) ∧ ∃ q, w' = w.drewN q

theorem take_next {α : Type} (a b : List α) (i : Nat) (x : α) (h1 : a[i]? = some x) (h2 : b[i]? = some x) (h : a.take i = b.take i) : a.take (i + 1) = b.take (i + 1) := by
  rw [List.take_add_one, List.take_add_one, h, h1, h2]

theorem drewN_add (w : World) (a b : Nat) : (w.drewN a).drewN b = w.drewN (a + b) := by unfold World.drewN; simp [Nat.add_assoc]

end Go.Proofs.YtgalfhlclmkbfaaGreatDoor
