/-
  Rows of tokens; tokens compared; the walks of the law's same and shown; conditions: what the variables of strconv hold.
-/
import Derived.Test.YtnflbgejjgjpcaaDoorLxF
import Derived.Test.YtnflbgejjgjpcaaDoorLxP2
import Derived.Laws.StructEq
namespace Go.Proofs.YtnflbgejjgjpcaaDoor
open Go.RowKit
set_option linter.unusedVariables false
set_option linter.unusedSimpArgs false

theorem under_tok : Tryd.prog.underlying 29 = some (.struct (Tryd.prog.fieldsOf 29)) := by kernel_rfl
theorem held_tok : Tryd.prog.stoodInHeld 29 = false := by kernel_rfl
theorem guard_tok : Tryd.prog.eqGuardType Tryd.prog.depth 29 = false := by kernel_rfl

theorem bytes_inj {s t : ByteArray} : s.toList = t.toList ↔ s = t := by
  constructor
  · intro h
    rw [ByteArray.toList_eq, ByteArray.toList_eq] at h
    rw [bA_eq s _ h, bA_self]
  · intro h
    rw [h]

theorem neq_tok (k n p k' n' p' : Int) (t t' : ByteArray) (R : Bool) (hR : R = true ↔ (k = k' ∧ t = t' ∧ n = n' ∧ p = p')) (w : World) : Sem.run Tryd.prog (binOp .neq 29 (.agg #[.int .i64 k, .string t, .int .i64 n, .int .i64 p]) (.agg #[.int .i64 k', .string t', .int .i64 n', .int .i64 p'])) w = .ok (.bool (!R)) w := by
  rw [run_neq_struct, run_equalIn_struct _ _ _ _ _ under_tok held_tok]
  simp [Program.fieldsOf, Tryd.underlying29, Op.eqFields, part, isAgg, run_underlying Tryd.underlying3, run_underlying Tryd.underlying9, run_underlying Tryd.underlying2, go_sem, bytes_inj]
  cases R with
  | true =>
    obtain ⟨rfl, rfl, rfl, rfl⟩ := hR.1 rfl
    simp
  | false =>
    by_cases h1 : k = k'
    · by_cases h2 : t = t'
      · by_cases h3 : n = n'
        · by_cases h4 : p = p'
          · exact absurd (hR.2 ⟨h1, h2, h3, h4⟩) (by simp)
          · simp [h1, h2, h3, h4]
        · simp [h1, h2, h3]
      · simp [h1, h2]
    · simp [h1]

theorem eql_tok (k n p : Int) (t : ByteArray) (w : World) : Sem.run Tryd.prog (binOp .eql 29 (.agg #[.int .i64 k, .string t, .int .i64 n, .int .i64 p]) (.agg #[.int .i64 k, .string t, .int .i64 n, .int .i64 p])) w = .ok (.bool true) w := by
  rw [run_eql_struct, run_equalIn_struct _ _ _ _ _ under_tok held_tok]
  simp [Program.fieldsOf, Tryd.underlying29, Op.eqFields, part, isAgg, run_underlying Tryd.underlying3, run_underlying Tryd.underlying9, run_underlying Tryd.underlying2, go_sem, bytes_inj]

theorem bA_inj {a b : List UInt8} : bA a = bA b ↔ a = b := by
  constructor
  · intro h
    have := congrArg (fun s : ByteArray => s.data.toList) h
    simpa [bA_data] using this
  · intro h
    rw [h]

theorem tk_eq (t u : Tk) : ((t.k : Int) = (u.k : Int) ∧ bA t.t = bA u.t ∧ (t.n : Int) = (u.n : Int) ∧ (t.p : Int) = (u.p : Int)) ↔ t = u := by
  obtain ⟨a, b, c, d⟩ := t
  obtain ⟨a', b', c', d'⟩ := u
  rw [bA_inj]
  simp only [Tk.mk.injEq]
  constructor
  · rintro ⟨h1, h2, h3, h4⟩
    exact ⟨by omega, h2, by omega, by omega⟩
  · rintro ⟨h1, h2, h3, h4⟩
    exact ⟨by omega, h2, by omega, by omega⟩

theorem flT_at : ∀ (ts : List Tk) (i : Nat) (t : Tk) (m : Nat) (x : Value), ts[i]? = some t → (tkL t)[m]? = some x → (flT ts)[i * 4 + m]? = some x
  | [], i, t, m, x, h, _ => by simp at h
  | u :: us, 0, t, m, x, h, hm => by
    simp at h
    subst h
    have hl : m < (tkL u).length := (List.getElem?_eq_some_iff.1 hm).1
    show (tkL u ++ flT us)[0 * 4 + m]? = _
    rw [Nat.zero_mul, Nat.zero_add, List.getElem?_append_left hl]
    exact hm
  | u :: us, i + 1, t, m, x, h, hm => by
    have ih := flT_at us i t m x (by simpa using h) hm
    show (tkL u ++ flT us)[(i + 1) * 4 + m]? = _
    have hl : (tkL u).length = 4 := rfl
    rw [List.getElem?_append_right (by rw [hl]; omega), hl, show (i + 1) * 4 + m - 4 = i * 4 + m by omega]
    exact ih

/-- a row of tokens that can be read -/
def TR (w : World) (ao : Option Addr) (ts : List Tk) : Prop := ∀ (i : Nat) (t : Tk), ts[i]? = some t → ∃ b, ao = some ⟨b, 0, none⟩ ∧ b < w.heap.size ∧ w.cell? ⟨b, i * 4, none⟩ = some (.int .i64 (t.k : Int)) ∧ w.cell? ⟨b, i * 4 + 1, none⟩ = some (.string (bA t.t)) ∧ w.cell? ⟨b, i * 4 + 2, none⟩ = some (.int .i64 (t.n : Int)) ∧ w.cell? ⟨b, i * 4 + 3, none⟩ = some (.int .i64 (t.p : Int))

theorem TR.of {w : World} {B : Nat} {ao : Option Addr} {n c : Nat} {ts : List Tk} (h : w.ownsRow B 29 4 (.slice ao n c) n (flT ts)) (hn : ts.length = n) : TR w ao ts := fun i t ht => by
  have hil : i < ts.length := (List.getElem?_eq_some_iff.1 ht).1
  rcases h.2 with ⟨_, e⟩ | ⟨b, cap, cur, e, hbb, hcur, rest⟩
  · omega
  · injection e with e1 e2 e3
    subst e1
    have hlt : b < w.heap.size := (Array.getElem?_eq_some_iff.1 hcur).1
    have hc : ∀ j x, (flT ts)[j]? = some x → w.cell? ⟨b, j, none⟩ = some x := fun j x hx => by
      have := h.cells (g := b) rfl j x hx
      have ha : (⟨b, 0, none⟩ : Addr).add j = ⟨b, j, none⟩ := by unfold Addr.add; split <;> simp_all
      rwa [ha] at this
    exact ⟨b, rfl, hlt, hc _ _ (flT_at ts i t 0 _ ht rfl), hc _ _ (flT_at ts i t 1 _ ht rfl), hc _ _ (flT_at ts i t 2 _ ht rfl), hc _ _ (flT_at ts i t 3 _ ht rfl)⟩

theorem TR.later {w u : World} {ao : Option Addr} {ts : List Tk} (h : TR w ao ts) (hu : Below w.heap.size w u) : TR u ao ts := fun i t ht => by
  obtain ⟨b, h1, h2, h3, h4, h5, h6⟩ := h i t ht
  exact ⟨b, h1, Nat.lt_of_lt_of_le h2 hu.size, cell_later hu h3, cell_later hu h4, cell_later hu h5, cell_later hu h6⟩

theorem TR.take {w : World} {ao : Option Addr} {ts : List Tk} (h : TR w ao ts) (m : Nat) : TR w ao (ts.take m) := fun i t ht => by
  rw [List.getElem?_take] at ht
  split at ht
  · exact h i t ht
  · cases ht

theorem add_row (b o : Nat) : (⟨b, 0, none⟩ : Addr).add o = ⟨b, o, none⟩ := by unfold Addr.add; split <;> simp_all

/-- what same answers -/
def SameR (ts us : List Tk) (w : World) (e : Ending) (w' : World) : Prop := ∃ r, e = .returned (.bool r) ∧ (r = true ↔ ts = us) ∧ ∃ q, w' = w.drewN q

theorem take_next {α : Type} (a b : List α) (i : Nat) (x : α) (h1 : a[i]? = some x) (h2 : b[i]? = some x) (h : a.take i = b.take i) : a.take (i + 1) = b.take (i + 1) := by
  rw [List.take_add_one, List.take_add_one, h, h1, h2]

theorem drewN_add (w : World) (a b : Nat) : (w.drewN a).drewN b = w.drewN (a + b) := by unfold World.drewN; simp [Nat.add_assoc]

set_option maxRecDepth 100000 in
set_option maxHeartbeats 1000000 in
theorem same_any (ts us : List Tk) (ao bo : Option Addr) (n m ca cb : Nat) (w : World) (hn : ts.length = n) (hm : us.length = m) (hn2 : n ≤ 10000) (hm2 : m ≤ 10000) (hca : n ≤ ca) (hcb : m ≤ cb) (ha : TR w ao ts) (hb : TR w bo us) :
    Calls Tryd.prog 9 #[.slice ao n ca, .slice bo m cb] w fun e w' => SameR ts us w e w' := by
  by_cases hnm : ¬ n = m
  · have hne : ¬ ts = us := fun e => hnm (by rw [← hn, ← hm, e])
    have j1 : ((n : Int) != (m : Int)) = true := by simp; omega
    have j2 : ¬ (n : Int) = (m : Int) := by omega
    have j3 : ((n : Int) == (m : Int)) = false := beq_eq_false_iff_ne.2 (by omega)
    have HP : Hid (SameR ts us w (.returned (.bool false)) w) := hide ⟨false, rfl, ⟨(fun h => by cases h), fun h => absurd h hne⟩, 0, rfl⟩
    clear hne ha hb hn hm
    go_enter Tryd.func9, Tryd.ntmps9
    go_wp2_with fail
    go_ret
    exact unhide HP
  replace hnm : n = m := Decidable.of_not_not hnm
  subst hnm
  have HA := hide ha
  have HB := hide hb
  have HN := hide (And.intro hn hm)
  clear ha hb hn hm
  go_enter Tryd.func9, Tryd.ntmps9
  go_wp2_with fail
  go_loopw [5] (fun x wr => ∃ i : Nat, x = .int .i64 (i : Int) ∧ i ≤ n ∧ Hid (ts.take i = us.take i ∧ ∃ q, wr = w.drewN q)) (fun x _ => n - (intOf x).toNat)
  case atStart => exact ⟨0, rfl, Nat.zero_le _, hide ⟨by simp, 0, rfl⟩⟩
  case round =>
    obtain ⟨i, rfl, hi, HX⟩ := hrel
    by_cases hlt : i < n
    · have j1 : (i : Int) < (n : Int) := by omega
      obtain ⟨⟨k, t, nn, p⟩, hv⟩ : ∃ v, ts[i]? = some v := ⟨_, List.getElem?_eq_getElem (by have := unhide HN; omega)⟩
      obtain ⟨⟨k', t', nn', p'⟩, hv'⟩ : ∃ v, us[i]? = some v := ⟨_, List.getElem?_eq_getElem (by have := unhide HN; omega)⟩
      obtain ⟨q, hq⟩ := (unhide HX).2
      have hbl : Below w.heap.size w wr := by rw [hq]; exact below_drewN' q w
      obtain ⟨b, rfl, hbl1, x0, x1, x2, x3⟩ := (unhide HA).later hbl i _ hv
      obtain ⟨b', rfl, hbl2, y0, y1, y2, y3⟩ := (unhide HB).later hbl i _ hv'
      obtain ⟨o, ho⟩ : ∃ o, i * 4 = o := ⟨_, rfl⟩
      have r1 := add_row b (i * 4)
      have r2 := add_row b' (i * 4)
      rw [ho] at r1 r2 x0 x1 x2 x3 y0 y1 y2 y3
      simp only at x0 x1 x2 x3 y0 y1 y2 y3
      have HE := hide (And.intro hv hv')
      have hR := tk_eq ⟨k, t, nn, p⟩ ⟨k', t', nn', p'⟩
      simp only at hR
      obtain ⟨V, hV⟩ : ∃ V, bA t = V := ⟨_, rfl⟩
      obtain ⟨V', hV'⟩ : ∃ V, bA t' = V := ⟨_, rfl⟩
      rw [hV] at x1 hR
      rw [hV'] at y1 hR
      obtain ⟨R, hRR⟩ : ∃ R : Bool, R = true ↔ ((k : Int) = (k' : Int) ∧ V = V' ∧ (nn : Int) = (nn' : Int) ∧ (p : Int) = (p' : Int)) := ⟨decide _, decide_eq_true_iff⟩
      have nq := neq_tok k nn p k' nn' p' V V' R hRR
      have ng := fun (w : World) (x y : Operand) => run_eqGuard_agg (P := Tryd.prog) w .neq 29 x y #[.int .i64 (k : Int), .string V, .int .i64 (nn : Int), .int .i64 (p : Int)] #[.int .i64 (k' : Int), .string V', .int .i64 (nn' : Int), .int .i64 (p' : Int)] guard_tok
      have HR := hide (hRR.trans hR)
      have HQ := hide hq
      have HLT := hide hlt
      have HO := hide ho
      clear hv hv' hR hRR hV hV' hq hbl hlt
      cases R with
      | true =>
        have HN5 : Hid (∀ z, ts.take (i + 1) = us.take (i + 1) ∧ ∃ q, wr.drewN z = w.drewN q) := hide (fun z => by
          obtain ⟨y1, y2⟩ := unhide HE
          have e2 := (unhide HR).1 rfl
          rw [← e2] at y2
          exact ⟨take_next _ _ i _ y1 y2 (unhide HX).1, q + z, by rw [unhide HQ, drewN_add]⟩)
        go_upto_region 6 with fail
        go_quiet (fail)
        go_wp2_with fail
        go_roundw
        case rel => exact ⟨i + 1, by go_num, unhide HLT, hide (unhide HN5 _)⟩
        case measure => have := unhide HLT; simp [intOf]; omega
      | false =>
        have HN5 : Hid (∀ z, SameR ts us w (.returned (.bool false)) (wr.drewN z)) := hide (fun z => by
          refine ⟨false, rfl, ⟨(fun h => by cases h), fun h => ?_⟩, q + z, by rw [unhide HQ, drewN_add]⟩
          obtain ⟨y1, y2⟩ := unhide HE
          rw [h, y2] at y1
          have e3 := (unhide HR).2 (Option.some.inj y1).symm
          cases e3)
        go_upto_region 6 with fail
        go_quiet (fail)
        go_wp2_with fail
        go_ret
        exact unhide HN5 _
    · have j1 : ¬ (i : Int) < (n : Int) := by omega
      have HN5 : Hid (SameR ts us w (.returned (.bool true)) wr) := hide (by
        refine ⟨true, rfl, ⟨fun _ => ?_, fun _ => rfl⟩, (unhide HX).2⟩
        have h1 := (unhide HX).1
        have h2 := unhide HN
        rw [List.take_of_length_le (by omega), List.take_of_length_le (by omega)] at h1
        exact h1)
      go_wp2_with fail
      go_ret
      exact unhide HN5

theorem shown_all : allT [108, 101, 116, 32, 97, 32, 61, 32, 49, 50, 59, 32, 47, 47, 32, 120] = .ok [⟨2, [108, 101, 116], 0, 0⟩, ⟨1, [97], 0, 4⟩, ⟨5, [61], 0, 6⟩, ⟨3, [], 12, 8⟩, ⟨5, [59], 0, 10⟩, ⟨0, [], 0, 16⟩] := by kernel_rfl

set_option maxRecDepth 100000 in
set_option maxHeartbeats 1000000 in
theorem shown_any (w : World) (he : Ev w) (hw6 : 5 < w.heap.size) :
    Calls Tryd.prog 10 #[] w fun e w' => e = .returned (.bool true) ∧ Below w.heap.size w w' := by
  have CA := all_any ⟨#[108, 101, 116, 32, 97, 32, 61, 32, 49, 50, 59, 32, 47, 47, 32, 120]⟩ w he hw6
  rw [show (⟨#[108, 101, 116, 32, 97, 32, 61, 32, 49, 50, 59, 32, 47, 47, 32, 120]⟩ : ByteArray).data.toList = [108, 101, 116, 32, 97, 32, 61, 32, 49, 50, 59, 32, 47, 47, 32, 120] from rfl, shown_all] at CA
  have C2 : Hid (Calls Tryd.prog 7 #[.string ⟨#[108, 101, 116, 32, 97, 32, 61, 32, 49, 50, 59, 32, 47, 47, 32, 120]⟩] w fun e w' => ∃ b c, e = .returned (.tuple #[.slice (some ⟨b, 0, none⟩) 6 c, .int .i64 0, .int .i64 0]) ∧ b < w'.heap.size ∧ 6 ≤ c ∧ (w'.cell? ⟨b, 0, none⟩ = some (.int .i64 2) ∧ w'.cell? ⟨b, 1, none⟩ = some (.string ⟨#[108, 101, 116]⟩) ∧ w'.cell? ⟨b, 2, none⟩ = some (.int .i64 0) ∧ w'.cell? ⟨b, 3, none⟩ = some (.int .i64 0)) ∧ (w'.cell? ⟨b, 4, none⟩ = some (.int .i64 1) ∧ w'.cell? ⟨b, 5, none⟩ = some (.string ⟨#[97]⟩) ∧ w'.cell? ⟨b, 6, none⟩ = some (.int .i64 0) ∧ w'.cell? ⟨b, 7, none⟩ = some (.int .i64 4)) ∧ (w'.cell? ⟨b, 12, none⟩ = some (.int .i64 3) ∧ w'.cell? ⟨b, 13, none⟩ = some (.string ⟨#[]⟩) ∧ w'.cell? ⟨b, 14, none⟩ = some (.int .i64 12) ∧ w'.cell? ⟨b, 15, none⟩ = some (.int .i64 8)) ∧ (w'.cell? ⟨b, 20, none⟩ = some (.int .i64 0) ∧ w'.cell? ⟨b, 21, none⟩ = some (.string ⟨#[]⟩) ∧ w'.cell? ⟨b, 22, none⟩ = some (.int .i64 0) ∧ w'.cell? ⟨b, 23, none⟩ = some (.int .i64 16)) ∧ Hid (Below w.heap.size w w')) := hide (by
    refine CA.mono ?_
    rintro e w' ⟨⟨v, rfl, hown⟩, hb⟩
    obtain ⟨ao, c, rfl, hs1, hs2, _⟩ := slice_form hown
    have ht := TR.of hown rfl
    obtain ⟨b, rfl, hlt, x0, x1, x2, x3⟩ := ht 0 _ rfl
    obtain ⟨b1, e1, _, y0, y1, y2, y3⟩ := ht 1 _ rfl
    obtain ⟨b2, e2, _, z0, z1, z2, z3⟩ := ht 3 _ rfl
    obtain ⟨b3, e3, _, v0, v1, v2, v3⟩ := ht 5 _ rfl
    cases e1
    cases e2
    cases e3
    exact ⟨_, c, rfl, hlt, hs2, ⟨x0, x1, x2, x3⟩, ⟨y0, y1, y2, y3⟩, ⟨z0, z1, z2, z3⟩, ⟨v0, v1, v2, v3⟩, hide hb⟩)
  clear CA
  have n1 := eql_tok 2 0 0 ⟨#[108, 101, 116]⟩
  have n2 := eql_tok 1 0 4 ⟨#[97]⟩
  have n3 := eql_tok 3 12 8 ⟨#[]⟩
  have n4 := eql_tok 0 0 16 ⟨#[]⟩
  have g1 := fun (k n p : Int) (t : ByteArray) (w : World) (x y : Operand) => run_eqGuard_agg (P := Tryd.prog) w .eql 29 x y #[.int .i64 k, .string t, .int .i64 n, .int .i64 p] #[.int .i64 k, .string t, .int .i64 n, .int .i64 p] guard_tok
  go_enter Tryd.func10, Tryd.ntmps10
  go_wp2_with fail
  refine (unhide C2).mono ?_
  rintro e w1 ⟨b, c, rfl, hlt, hc6, ⟨x0, x1, x2, x3⟩, ⟨y0, y1, y2, y3⟩, ⟨z0, z1, z2, z3⟩, ⟨v0, v1, v2, v3⟩, HB⟩
  have hc : (6 : Int) ≤ (c : Int) := by omega
  go_wp2_with fail
  go_ret
  exact ⟨rfl, unhide HB⟩
end Go.Proofs.YtnflbgejjgjpcaaDoor
