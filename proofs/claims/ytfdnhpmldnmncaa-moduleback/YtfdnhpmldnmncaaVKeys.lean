/-
  The walk of rising: may these be a record's keys? no conditions but the form's own reach.
-/
import Derived.Test.YtfdnhpmldnmncaaVBase
namespace Go.Proofs.Ytfdnhpmldnmncaa
open Go.RowKit

/-- keys in memory -/
structure IsK (w : World) (ks : List ByteArray) (ak : Option Addr) (ck : Nat) : Prop where
  none : ak = none → ks.length = 0
  len : ks.length ≤ ck
  bnd : ks.length ≤ 140737488351232
  cell : ∀ a, ak = some a → ∀ i t, ks[i]? = some t → w.cell? (a.add i) = some (.string t)
  small : ∀ t ∈ ks, t.size ≤ 140737488351232

theorem IsK.mono {w w' : World} {ks : List ByteArray} {ak : Option Addr} {ck : Nat} (h : IsK w ks ak ck) (hb : Below w.heap.size w w') : IsK w' ks ak ck :=
  ⟨h.none, h.len, h.bnd, fun a ha i t ht => by
    have h1 := h.cell a ha i t ht
    rw [hb.cell (World.block_lt_of_cell? _ _ (by rw [h1]))]
    exact h1, h.small⟩

theorem add_pos (a : Addr) {i : Nat} (h : ¬ i = 0) : a.add i = ⟨a.block, a.off + i, none⟩ := by unfold Addr.add; rw [if_neg h]

theorem drop_cons {ks : List ByteArray} {i : Nat} {t : ByteArray} (h : ks[i]? = some t) : ks.drop i = t :: ks.drop (i + 1) := by
  obtain ⟨hi, rfl⟩ := List.getElem?_eq_some_iff.1 h
  exact List.drop_eq_getElem_cons hi

set_option maxRecDepth 100000 in
set_option maxHeartbeats 400000 in
theorem rising_any (ks : List ByteArray) (ak : Option Addr) (ck : Nat) (w : World) (h : IsK w ks ak ck) :
    Calls Try.prog 79 #[.slice ak ks.length ck] w fun e w' => e = .returned (.bool (risingFrom none ks)) ∧ w' = w := by
  have hn := h.len
  have hb := h.bnd
  have HH := hide h
  clear h
  obtain ⟨n, hnn⟩ : ∃ n, ks.length = n := ⟨_, rfl⟩
  rw [hnn] at hn hb ⊢
  have HN := hide hnn
  clear hnn
  go_enter Try.func79, Try.ntmps79
  go_wp2_with fail
  go_loopw [7] (fun x wr => ∃ i : Nat, i ≤ n ∧ x = .int .i64 i ∧ wr = w ∧ Hid (risingFrom none ks = risingFrom (if i = 0 then none else ks[i - 1]?) (ks.drop i))) (fun x _ => n - (intOf x).toNat)
  case atStart => exact ⟨0, by omega, rfl, rfl, hide (by simp)⟩
  case round =>
    obtain ⟨i, hi, rfl, rfl, HR⟩ := hrel
    by_cases hlt : i < n
    · have hln := unhide HN
      obtain ⟨t, ht⟩ : ∃ t, ks[i]? = some t := ⟨_, List.getElem?_eq_getElem (by omega)⟩
      obtain ⟨a, rfl⟩ : ∃ a, ak = some a := by
        cases ak with
        | none => have := (unhide HH).none rfl; omega
        | some a => exact ⟨a, rfl⟩
      have c1 := (unhide HH).cell a rfl i t ht
      have ts := (unhide HH).small t (List.mem_of_getElem? ht)
      have HT := hide ht
      clear hln ht
      by_cases h32 : t.size ≤ 32
      · by_cases h0 : i = 0
        · subst h0
          have c0 : wr.cell? a = some (.string t) := c1
          clear c1
          have HR' : Hid (risingFrom none ks = risingFrom (if 1 = 0 then none else ks[1 - 1]?) (ks.drop 1)) := hide (by
            rw [unhide HR, drop_cons (unhide HT)]
            have e := unhide HT
            simp [risingFrom, h32, e])
          go_wp2_with fail
          go_roundw
          case rel => exact ⟨1, by omega, by go_num, trivial, HR'⟩
          case measure => simp [intOf]; omega
        · obtain ⟨k, hk⟩ : ∃ k, i = k + 1 := ⟨i - 1, by omega⟩
          obtain ⟨q, hq⟩ : ∃ q, ks[k]? = some q := ⟨_, List.getElem?_eq_getElem (by have := unhide HN; omega)⟩
          have c2 := (unhide HH).cell a rfl k q hq
          have k1 : (i : Int) - 1 = (k : Int) := by omega
          have k2 : IntKind.i64.wrap ((i : Int) - 1) = (k : Int) := by rw [IntKind.wrap_i64]; omega
          have k3 : (0 : Int) < (i : Int) := by omega
          have k4 : (k : Int) < (n : Int) := by omega
          have HQ := hide (And.intro hq hk)
          clear hq hk
          have hstep : risingFrom none ks = (Op.bytesLess q.toList t.toList && risingFrom (some t) (ks.drop (i + 1))) := by
            rw [unhide HR, drop_cons (unhide HT), if_neg h0, show i - 1 = k by have := (unhide HQ).2; omega, (unhide HQ).1]
            simp [risingFrom, h32]
          have HS := hide hstep
          clear hstep
          by_cases hbl : Op.bytesLess q.toList t.toList = true
          · have HR' : Hid (risingFrom none ks = risingFrom (if i + 1 = 0 then none else ks[i + 1 - 1]?) (ks.drop (i + 1))) := hide (by
              rw [unhide HS, hbl, if_neg (by omega), show i + 1 - 1 = i by omega, unhide HT]
              simp)
            go_wp2_with fail
            go_roundw
            case rel => exact ⟨i + 1, by omega, by go_num, trivial, HR'⟩
            case measure => simp [intOf]; omega
          · have hbl' : Op.bytesLess q.toList t.toList = false := by simpa using hbl
            have HF : Hid (risingFrom none ks = false) := hide (by rw [unhide HS, hbl']; rfl)
            clear hbl
            go_wp2_with fail
            go_ret
            exact ⟨by rw [unhide HF]; rfl, rfl⟩
      · have hfin : risingFrom none ks = false := by
          rw [unhide HR, drop_cons (unhide HT)]
          simp [risingFrom, h32]
        have HF := hide hfin
        clear hfin
        go_wp2_with fail
        go_ret
        exact ⟨by rw [unhide HF]; rfl, rfl⟩
    · have hfin : risingFrom none ks = true := by
        rw [unhide HR, List.drop_eq_nil_of_le (by have := unhide HN; omega)]
        rfl
      have HF := hide hfin
      clear hfin
      go_wp2_with fail
      go_ret
      exact ⟨by rw [unhide HF]; rfl, rfl⟩
end Go.Proofs.Ytfdnhpmldnmncaa
