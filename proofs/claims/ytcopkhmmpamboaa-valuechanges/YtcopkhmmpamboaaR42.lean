/-
  The walk of the document's place: where a key stands among a value's keys; conditions: the form's own reach.
  append of one element of any type onto a row of the call's own; no conditions.
-/
import Derived.Test.YtcopkhmmpamboaaXGet
import Derived.Test.YtcopkhmmpamboaaR23
import Derived.Deep.AppendLies
namespace Go.Proofs.Ytcopkhmmpamboaa
open Go.RowKit
set_option linter.unusedVariables false
set_option linter.unusedSimpArgs false

def placeI (ks : List ByteArray) (key : ByteArray) : Int := match placeK ks key with | some i => (i : Int) | none => -1

theorem placeI_none {ks : List ByteArray} {key : ByteArray} (h : ∀ j t, j < ks.length → ks[j]? = some t → t ≠ key) : placeI ks key = -1 := by
  have h1 : placeK ks key = none := by
    unfold placeK
    rw [List.findIdx?_eq_none_iff]
    intro t ht
    obtain ⟨j, hj⟩ := List.getElem?_of_mem ht
    simp only [decide_eq_false_iff_not]
    exact h j t (List.getElem?_eq_some_iff.1 hj).1 hj
  unfold placeI
  rw [h1]

theorem placeI_some {ks : List ByteArray} {key : ByteArray} {i : Nat} (h : ∀ j t, j < i → ks[j]? = some t → t ≠ key) (hi : ks[i]? = some key) : placeI ks key = (i : Int) := by
  have h1 : placeK ks key = some i := by
    unfold placeK
    obtain ⟨hl, he⟩ := List.getElem?_eq_some_iff.1 hi
    rw [List.findIdx?_eq_some_iff_getElem]
    refine ⟨hl, by simp [he], fun j hj => ?_⟩
    simp only [decide_eq_true_eq]
    exact h j _ hj (List.getElem?_eq_getElem (by omega))
  unfold placeI
  rw [h1]

set_option maxRecDepth 100000 in
set_option maxHeartbeats 1000000 in
theorem place_any (v : Vl) (x : Value) (B : Nat) (key : ByteArray) (w : World) (hv : IsV w B v x) (hBs : B ≤ w.heap.size) :
    Calls Try.prog 32 #[x, .string key] w fun e w' => e = .returned (.int .i64 (placeI v.ks key)) ∧ Below w.heap.size w w' := by
  obtain ⟨k, n, s, l, ks, al, ak, cl, ck, rfl, rfl⟩ := hv.shape
  obtain ⟨m, hm⟩ : ∃ m, ks.length = m := ⟨_, rfl⟩
  obtain ⟨ln, hln⟩ : ∃ ln, l.length = ln := ⟨_, rfl⟩
  rw [hm, hln] at hv
  rw [hm, hln]
  have hmb : m ≤ 140737488351232 := by
    obtain ⟨_, _, _, _, h2, V', hf, _⟩ := IsP.at hv
    have := hf.bc
    omega
  have BX := Box.mk' w (.int .i64 k) (.int .i64 n) (.string s) (.slice al ln cl) (.slice ak m ck)
  obtain ⟨w1, hw1⟩ : ∃ w1, w.alloc (.cells #[.int .i64 k, .int .i64 n, .string s, .slice al ln cl, .slice ak m ck] 27) = w1 := ⟨_, rfl⟩
  rw [hw1] at BX
  obtain ⟨g, hg⟩ : ∃ g, w.heap.size = g := ⟨_, rfl⟩
  have at0 := BX.row
  rw [hg] at at0
  have HB : Hid (Below g w w1) := hide (by rw [← hg]; exact BX.below)
  have HV : Hid (IsV w1 B (.mk k n s l ks) (.agg #[.int .i64 k, .int .i64 n, .string s, .slice al ln cl, .slice ak m ck])) := hide (hv.mono (BX.below.mono (by omega)))
  have HL := hide hm
  have HZ : Hid (∀ j t, j < 0 → ks[j]? = some t → t ≠ key) := hide (fun j t h => by omega)
  obtain ⟨c0, c1, c2, c3, c4⟩ := row_cell at0
  clear BX hv hm hln at0
  go_enter Try.func32, Try.ntmps32
  go_upto_region 1 with fail
  try rw [hw1]
  clear hw1
  go_wp2_with fail
  go_loopw [5] (fun x wr => ∃ i : Nat, i ≤ m ∧ x = .int .i64 i ∧ wr = w1 ∧ Hid (∀ j t, j < i → ks[j]? = some t → t ≠ key)) (fun x _ => m - (intOf x).toNat)
  case atStart => exact ⟨0, Nat.zero_le _, rfl, rfl, HZ⟩
  case round =>
    clear HZ
    obtain ⟨i, hi, rfl, rfl, HN⟩ := hrel
    by_cases hlt : i < m
    · have i1 : (i : Int) < (m : Int) := by omega
      have i0 : (0 : Int) ≤ (i : Int) := by omega
      obtain ⟨tk, htk⟩ : ∃ tk, ks[i]? = some tk := ⟨_, List.getElem?_eq_getElem (by have := unhide HL; omega)⟩
      obtain ⟨a2, rfl⟩ : ∃ a2, ak = some a2 := by
        cases ak with
        | none => have h1 := (unhide HV).keys.1.none rfl; have h2 := unhide HL; omega
        | some a2 => exact ⟨a2, rfl⟩
      have cK := (unhide HV).keys.1.cell a2 rfl i tk htk
      have HT := hide htk
      have HI1 : Hid (i + 1 ≤ m) := hide (by omega)
      clear htk
      cases hbe : (tk.toList == key.toList) with
      | true =>
        have HF : Hid (placeI ks key = (i : Int)) := hide (placeI_some (unhide HN) (by rw [← (bytes_beq tk key).1 hbe]; exact unhide HT))
        go_wp2_with fail
        go_ret
        exact ⟨by rw [unhide HF]; rfl, by first | exact unhide HB | (rw [hg]; exact unhide HB)⟩
      | false =>
        have HN1 : Hid (∀ j t, j < i + 1 → ks[j]? = some t → t ≠ key) := hide (fun j t hj ht => by
          by_cases e : j < i
          · exact unhide HN j t e ht
          · obtain rfl : j = i := by omega
            rw [unhide HT] at ht
            cases ht
            intro e
            rw [(bytes_beq tk key).2 e] at hbe
            cases hbe)
        go_wp2_with fail
        go_roundw
        case rel => exact ⟨i + 1, unhide HI1, by go_num, by first | rfl | trivial, HN1⟩
        case measure => have := unhide HI1; simp [intOf]; omega
    · have i1 : ¬ (i : Int) < (m : Int) := by omega
      have HF : Hid (placeI ks key = -1) := hide (placeI_none (fun j t hj ht => unhide HN j t (by have := unhide HL; omega) ht))
      go_wp2_with fail
      go_ret
      exact ⟨by rw [unhide HF]; rfl, by first | exact unhide HB | (rw [hg]; exact unhide HB)⟩
end Go.Proofs.Ytcopkhmmpamboaa

namespace Go.Proofs.Ytcopkhmmpamboaa
open Go.RowKit
set_option linter.unusedVariables false
set_option linter.unusedSimpArgs false

/-- append of one element that was just laid -/
theorem wpl_oneG {P : Program} {w : World} {ops : Array Oper} {rest : List Oper} {o : Oper} {a : Act} {Q : Exit → Act → World → Prop} (hgd : o.guard = none) (sl x : Operand) (T e : TypeId) (i0 : TypeInfo) (z : Value) (size bytes : Nat)
    (hu : P.underlying T = some (.slice e)) (hi : P.info? e = some i0) (hz : i0.zero = some z) (hs1 : i0.size = size) (hby : i0.bytes = bytes) (hzs : z.cells.size = size) (hsz : 0 < size)
    (ho : o.op = .call { callee := .builtin .append, args := #[sl, x], argTypes := #[T, T] })
    (base n : Nat) (v : Value) (xs : List Value) (A : List Value) (hA : A.length = size) (h1 : ∀ u ∈ A, u.oneCell' = true) (hs : a.eval sl = v) (hown : w.ownsRow base e size v n xs)
    (hx : a.eval x = .slice (some ⟨w.heap.size, 0, none⟩) 1 1) (hn : n + 1 ≤ maxLen) (hbytes : (n + 1) * bytes ≤ 140737488355328) (hbase : base ≤ w.heap.size)
    (h : ∀ v' w', Hid (w'.ownsRow base e size v' (n + 1) (xs ++ A) ∧ w.grownBy w' v.ownBlock ∧ ∀ b, v'.ownBlock = some b → v.ownBlock = some b ∨ w.heap.size ≤ b) → wpList P ops Q rest (a.put o.dst v') w') :
    wpList P ops Q (o :: rest) a (w.alloc (.cells A.toArray e)) := by
  refine wpList_plain hgd fun K hK => ?_
  have hb : Below w.heap.size w (w.alloc (.cells A.toArray e)) := (Below.refl _ _).alloc (Nat.le_refl _) _
  have hnew := heap_alloc_new w (.cells A.toArray e)
  have hz1 : (w.alloc (.cells A.toArray e)).heap.size = w.heap.size + 1 := by simp
  obtain ⟨v', w', hrun, r1, r2, _, r4⟩ := run_append_own_at (P := P) (w.alloc (.cells A.toArray e)) base T o.type e i0 z size bytes hu hi hz hs1 hby hzs hsz v n xs (hown.alloc _) ⟨w.heap.size, 0, none⟩ 1 1 A (by omega) (fun j u hj => World.news_of_block hnew j u (by simpa using hj)) h1 hn hbytes (by omega)
  unfold Oper.wp
  simp only [execOp, ho, resolve, invoke, builtin, Sem.run_bind, Sem.run_pure, Result.andThen_ok, List.map_toArray, List.map_cons, List.map_nil, hs, hx, hrun]
  refine hK _ _ (h v' w' ⟨r1, ⟨r2.os, r2.tape, r2.output, by have := r2.size; omega, fun k hk hne => (r2.block k (by omega) hne).trans (heap_alloc_old w _ hk)⟩, fun b hb' => ?_⟩)
  rcases r4 with e' | e'
  · exact Or.inl (by rw [← e']; exact hb')
  · rw [hb'] at e'
    exact Or.inr (by rw [Option.some.inj e', hz1]; omega)

end Go.Proofs.Ytcopkhmmpamboaa
