/-
  The walk of the document's Digits; conditions: a number of 64 bits.
  The two rows of a value that is its owner's, as rows of the call's own; no conditions.
  append of one element of any type onto a row of the call's own; no conditions.
-/
import Derived.Test.YtjkfkneibcjgaaaGreatDoorA00
import Derived.Lib.ItoaNum
import Derived.Deep.Strs
import Derived.Test.YtjkfkneibcjgaaaGreatDoorA14
import Derived.Deep.CutRange
import Derived.WalkSpells
import Derived.WalkSmall
import Derived.Test.YtjkfkneibcjgaaaGreatDoorA22
import Derived.Deep.AppendLies
set_option linter.unusedVariables false
set_option linter.unusedSimpArgs false
namespace Go.Proofs.YtjkfkneibcjgaaaGreatDoor
open Go.RowKit
set_option linter.unusedVariables false
set_option linter.unusedSimpArgs false

def tenB : ByteArray := ⟨#[48, 49, 50, 51, 52, 53, 54, 55, 56, 57]⟩
theorem ten_fin : ∀ d : Fin 10, (tenB.extract d.val (d.val + 1)).data.toList = [UInt8.ofNat (48 + d.val)] := by decide +kernel
theorem ten_at (d : Nat) (h : d < 10) : ((⟨#[48, 49, 50, 51, 52, 53, 54, 55, 56, 57]⟩ : ByteArray).extract d (d + 1)).data.toList = [UInt8.ofNat (48 + d)] := ten_fin ⟨d, h⟩

theorem dig_last (k : Nat) : Lib.decDigits k = (if k / 10 = 0 then [] else Lib.decDigits (k / 10)) ++ [UInt8.ofNat (48 + k % 10)] := by
  by_cases h : k < 10
  · rw [Lib.decDigits_one h, if_pos (by omega), show k % 10 = k by omega]; rfl
  · conv => lhs; rw [Lib.decDigits, dif_neg h]
    rw [if_neg (by omega)]

theorem nDigits_le : ∀ (k u : Nat), u < 10 ^ (k + 1) → Lib.nDigits u ≤ k + 1
  | 0, u, h => by rw [Lib.nDigits_small (by simpa using h)]; omega
  | k + 1, u, h => by
    by_cases h10 : u < 10
    · rw [Lib.nDigits_small h10]; omega
    · rw [Lib.nDigits_big h10]
      have := nDigits_le k (u / 10) (by rw [Nat.pow_succ] at h; omega)
      omega

theorem dec_len {u : Nat} (h : u ≤ 9223372036854775808) : (Lib.decDigits u).length ≤ 20 := by
  rw [Lib.decDigits_length]
  exact nDigits_le 19 u (by omega)

set_option maxRecDepth 100000 in
set_option maxHeartbeats 1000000 in
theorem digits_pos (n : Nat) (hn : n ≤ 9223372036854775807) (w : World) :
    Calls Tryz.prog 122 #[.int .i64 (n : Int)] w fun e w' => ∃ s : ByteArray, e = .returned (.string s) ∧ s.data.toList = Lib.decDigits n ∧ w' = w := by
  have h0 : ¬ (n : Int) < 0 := by omega
  have HS : Hid ((if n / 10 = 0 then [] else Lib.decDigits (n / 10)) ++ ((⟨#[48, 49, 50, 51, 52, 53, 54, 55, 56, 57]⟩ : ByteArray).extract (n % 10) (n % 10 + 1)).data.toList = Lib.decDigits n) := hide (by
    rw [ten_at (n % 10) (by omega)]
    exact (dig_last n).symm)
  go_enter Tryz.func122, Tryz.ntmps122
  go_wp2_with fail
  go_loopw [0, 3] (fun x y wr => ∃ (k : Nat) (s : ByteArray), k ≤ 9223372036854775807 ∧ x = .int .i64 (k : Int) ∧ y = .string s ∧ wr = w ∧ Hid ((if k = 0 then [] else Lib.decDigits k) ++ s.data.toList = Lib.decDigits n)) (fun x _ _ => (intOf x).toNat)
  case atStart => exact ⟨n / 10, _, by omega, by rw [Int.natCast_ediv]; rfl, rfl, rfl, HS⟩
  case round =>
    clear HS
    obtain ⟨k, s, hk, rfl, rfl, rfl, HI⟩ := hrel
    by_cases hk0 : k = 0
    · subst hk0
      have j1 : ¬ (0 : Int) < ((0 : Nat) : Int) := by omega
      have HF : Hid (s.data.toList = Lib.decDigits n) := hide (by have h := unhide HI; simpa using h)
      go_wp2_with fail
      go_ret
      exact ⟨s, rfl, unhide HF, rfl⟩
    · have j1 : (0 : Int) < (k : Int) := by omega
      have HI1 : Hid ((if k / 10 = 0 then [] else Lib.decDigits (k / 10)) ++ (((⟨#[48, 49, 50, 51, 52, 53, 54, 55, 56, 57]⟩ : ByteArray).extract (k % 10) (k % 10 + 1)) ++ s).data.toList = Lib.decDigits n) := hide (by
        have h := unhide HI
        rw [if_neg hk0, dig_last k, List.append_assoc] at h
        rw [ByteArray.data_append, Array.toList_append, ten_at (k % 10) (by omega)]
        exact h)
      have hs20 : s.size ≤ 20 := by
        have h := congrArg List.length (unhide HI)
        rw [List.length_append] at h
        have h2 := dec_len (u := n) (by omega)
        have h3 : s.size = s.data.toList.length := rfl
        omega
      have hsz : ¬ 9223372036854775807 < min (k % 10 + 1) 10 - k % 10 + s.size := by omega
      have HK : Hid (k / 10 < k ∧ k / 10 ≤ 9223372036854775807) := hide ⟨by omega, by omega⟩
      go_wp2_with fail
      go_roundw
      case rel => exact ⟨k / 10, _, (unhide HK).2, by rw [Int.natCast_ediv]; rfl, rfl, by first | rfl | trivial, HI1⟩
      case measure => have := (unhide HK).1; simp [intOf]; omega

set_option maxRecDepth 100000 in
set_option maxHeartbeats 1000000 in
theorem digits_any (n : Int) (h1 : -9223372036854775808 ≤ n) (h2 : n ≤ 9223372036854775807) (w : World) :
    Calls Tryz.prog 122 #[.int .i64 n] w fun e w' => ∃ s : ByteArray, e = .returned (.string s) ∧ s.data.toList = Lib.itoa n ∧ w' = w := by
  by_cases hn : n < 0
  · by_cases hm : n = -9223372036854775808
    · subst hm
      go_enter Tryz.func122, Tryz.ntmps122
      go_wp2_with fail
      go_ret
      exact ⟨_, rfl, by decide +kernel, rfl⟩
    · obtain ⟨u, hu⟩ : ∃ u : Nat, n = -(u : Int) := ⟨n.natAbs, by omega⟩
      have hu1 : 1 ≤ u := by omega
      have hw : IntKind.i64.wrap (-n) = (u : Int) := by rw [IntKind.wrap_i64]; omega
      have hb : (n == -9223372036854775808) = false := by simpa using hm
      have CP := hide (digits_pos u (by omega) w)
      have HU := hide (And.intro hu hu1)
      clear hu
      go_enter Tryz.func122, Tryz.ntmps122
      go_wp2_with fail
      refine (unhide CP).mono ?_
      rintro e w' ⟨s, rfl, hs, rfl⟩
      have HS := hide hs
      have hsz : ¬ 9223372036854775807 < 1 + s.size := by
        have h := congrArg List.length hs
        have h2 := dec_len (u := u) (by have := (unhide HU).1; omega)
        have h3 : s.size = s.data.toList.length := rfl
        omega
      clear hs CP
      go_wp2_with fail
      go_ret
      refine ⟨_, rfl, ?_, rfl⟩
      obtain ⟨hu, hu1⟩ := unhide HU
      rw [hu, ByteArray.data_append, Array.toList_append, unhide HS]
      unfold Lib.itoa
      rw [if_pos (by omega)]
      simp
  · obtain ⟨u, rfl⟩ : ∃ u : Nat, n = (u : Int) := ⟨n.toNat, by omega⟩
    refine (digits_pos u (by omega) w).mono ?_
    rintro e w' ⟨s, rfl, hs, rfl⟩
    refine ⟨s, rfl, ?_, rfl⟩
    rw [hs]
    unfold Lib.itoa
    rw [if_neg (by omega)]
    simp
end Go.Proofs.YtjkfkneibcjgaaaGreatDoor

namespace Go.Proofs.YtjkfkneibcjgaaaGreatDoor
open Go.RowKit
set_option linter.unusedVariables false
set_option linter.unusedSimpArgs false

theorem add_at0 (b j : Nat) : (⟨b, 0, none⟩ : Addr).add j = ⟨b, j, none⟩ := by
  unfold Addr.add
  split <;> simp_all

theorem keys_own {w : World} {P : Nat → Prop} {base : Nat} {kind n : Int} {s : ByteArray} {l : List Vl} {ks : List ByteArray} {al ak : Option Addr} {cl ck : Nat} {V : Nat → List Value} (hk : TyK w P ak ks.length ck) (hf : VF w P kind n s l ks al ak cl ck V) (hb : ∀ b, P b → base ≤ b) :
    w.ownsRow base 9 1 (.slice ak ks.length ck) ks.length (ks.map Value.string) := by
  refine ⟨by simp, ?_⟩
  rcases hk with ⟨rfl, h0, rfl⟩ | ⟨b, cs, rfl, hp, hg, hs, hm, hc, _⟩
  · exact .inl ⟨by rw [h0], h0⟩
  · refine .inr ⟨b, ck, cs, rfl, hb b hp, hg, hm, hc, by omega, ?_⟩
    apply List.ext_getElem?
    intro i
    rw [Nat.mul_one, List.getElem?_take]
    by_cases hi : i < ks.length
    · rw [if_pos hi, List.getElem?_map, List.getElem?_eq_getElem hi]
      have h1 := (hf.hk _ rfl i ks[i] (List.getElem?_eq_getElem hi)).2
      rw [add_at0, cell_of_row w b i cs 9 (0, 0) hg] at h1
      simpa using h1
    · rw [if_neg hi, List.getElem?_eq_none (by simpa using Nat.le_of_not_lt hi)]

theorem els_own {w : World} {P : Nat → Prop} {R : Value → Prop} {base : Nat} {kind n : Int} {s : ByteArray} {l : List Vl} {ks : List ByteArray} {al ak : Option Addr} {cl ck : Nat} {V : Nat → List Value} (hk : TyL w P R al l.length cl) (hf : VF w P kind n s l ks al ak cl ck V) (hb : ∀ b, P b → base ≤ b) :
    w.ownsRow base 26 5 (.slice al l.length cl) l.length (flat V l.length) := by
  refine ⟨flat_len V l.length hf.hv, ?_⟩
  rcases hk with ⟨rfl, h0, rfl⟩ | ⟨b, cs, rfl, hp, hg, hs, hm, hc, _⟩
  · exact .inl ⟨by rw [h0], h0⟩
  · refine .inr ⟨b, cl, cs, rfl, hb b hp, hg, hm, hc, hs, ?_⟩
    have hfl := flat_len V l.length hf.hv
    apply List.ext_getElem?
    intro q
    rw [List.getElem?_take]
    by_cases hq : q < l.length * 5
    · rw [if_pos hq]
      have h5 := hf.hv (q / 5) (by omega)
      have h1 := (hf.hl _ rfl (q / 5) (by omega)).2 (q % 5) ((V (q / 5))[q % 5]'(by omega)) (List.getElem?_eq_getElem (by omega))
      have h2 := flat_at V l.length hf.hv (q / 5) (by omega) (q % 5) ((V (q / 5))[q % 5]'(by omega)) (List.getElem?_eq_getElem (by omega))
      have e : q / 5 * 5 + q % 5 = q := by omega
      rw [e] at h2
      rw [h2]
      have ea : ((⟨b, 0, none⟩ : Addr).add (q / 5 * 5)).add (q % 5) = ⟨b, q, none⟩ := by
        rw [add_at0]
        unfold Addr.add
        split
        all_goals (simp; try omega)
      rw [ea, cell_of_row w b q cs _ (0, 0) hg] at h1
      simpa using h1
    · rw [if_neg hq, List.getElem?_eq_none (by omega)]

/-- a value that is its owner's: its two rows, and what its elements are -/
theorem IsQ.rows {w : World} {P : Nat → Prop} {base : Nat} {kind n k' n' : Int} {s s' : ByteArray} {l : List Vl} {ks : List ByteArray} {al ak : Option Addr} {ll m cl ck : Nat} (h : IsQ w P (.mk kind n s l ks) (.agg #[.int .i64 k', .int .i64 n', .string s', .slice al ll cl, .slice ak m ck])) (hb : ∀ b, P b → base ≤ b) :
    ll = l.length ∧ m = ks.length ∧ ∃ V, w.ownsRow base 26 5 (.slice al l.length cl) l.length (flat V l.length) ∧ w.ownsRow base 9 1 (.slice ak ks.length ck) ks.length (ks.map Value.string) ∧ VF w P kind n s l ks al ak cl ck V ∧ ∀ i y, l[i]? = some y → IsP w P y (.agg (V i).toArray) := by
  obtain ⟨rfl, rfl, rfl, rfl, rfl, V, hf, el⟩ := h.1.at
  have hd := dep_pos (.mk k' n' s' l ks)
  obtain ⟨r, hr⟩ : ∃ r, dep (.mk k' n' s' l ks) = r + 1 := ⟨dep (.mk k' n' s' l ks) - 1, by omega⟩
  have ht := h.2
  rw [hr] at ht
  obtain ⟨_, _, _, _, _, _, _, _, _, e, hl, hk⟩ := ht
  simp only [Value.agg.injEq, Array.mk.injEq, List.cons.injEq, Value.int.injEq, Value.string.injEq, Value.slice.injEq, and_true, true_and] at e
  obtain ⟨_, _, _, ⟨rfl, rfl, rfl⟩, rfl, rfl, rfl⟩ := e
  exact ⟨rfl, rfl, V, els_own hl hf hb, keys_own hk hf hb, hf, el⟩
end Go.Proofs.YtjkfkneibcjgaaaGreatDoor

namespace Go.Proofs.YtjkfkneibcjgaaaGreatDoor
open Go.RowKit
set_option linter.unusedVariables false
set_option linter.unusedSimpArgs false

/-- append of one element that was just laid -/
theorem wpl_oneG {P : Program} {w : World} {ops : Array Oper} {rest : List Oper} {o : Oper} {a : Act} {Q : Exit → Act → World → Prop} (hgd : o.guard = none) (sl x : Operand) (T e : TypeId) (i0 : TypeInfo) (z : Value) (size bytes : Nat)
    (hu : P.underlying T = some (.slice e)) (hi : P.info? e = some i0) (hz : i0.zero = some z) (hs1 : i0.size = size) (hby : i0.bytes = bytes) (hzs : z.cells.size = size) (hsz : 0 < size)
    (ho : o.op = .call { callee := .builtin .append, args := #[sl, x], argTypes := #[T, T] })
    (base n : Nat) (v : Value) (xs : List Value) (A : List Value) (hA : A.length = size) (h1 : ∀ u ∈ A, u.oneCell' = true) (hs : a.eval sl = v) (hown : w.ownsRow base e size v n xs)
    (hx : a.eval x = .slice (some ⟨w.heap.size, 0, none⟩) 1 1) (hn : n + 1 ≤ maxLen) (hbytes : (n + 1) * bytes ≤ 140737488355328) (hbase : base ≤ w.heap.size)
    (h : ∀ v' w', Hid (w'.ownsRow base e size v' (n + 1) (xs ++ A) ∧ w.grownBy w' v.ownBlock ∧ ∀ b, v'.ownBlock = some b → v.ownBlock = some b ∨ w.heap.size ≤ b) → wpList P ops Q rest (a.put o.dst v') w') :
    wpList P ops Q (o :: rest) a (w.alloc (.cells A.toArray e)) := by
  refine wpList_plain hgd fun K hK => ?_
  have hb : Below w.heap.size w (w.alloc (.cells A.toArray e)) := (Below.refl _ _).alloc (Nat.le_refl _) _
  have hnew := heap_alloc_new w (.cells A.toArray e)
  have hz1 : (w.alloc (.cells A.toArray e)).heap.size = w.heap.size + 1 := by simp
  obtain ⟨v', w', hrun, r1, r2, _, r4⟩ := run_append_own_at (P := P) (w.alloc (.cells A.toArray e)) base T o.type e i0 z size bytes hu hi hz hs1 hby hzs hsz v n xs (hown.alloc _) ⟨w.heap.size, 0, none⟩ 1 1 A (by omega) (fun j u hj => World.news_of_block hnew j u (by simpa using hj)) h1 hn hbytes (by omega)
  unfold Oper.wp
  simp only [execOp, ho, resolve, invoke, builtin, Sem.run_bind, Sem.run_pure, Result.andThen_ok, List.map_toArray, List.map_cons, List.map_nil, hs, hx, hrun]
  refine hK _ _ (h v' w' ⟨r1, ⟨r2.os, r2.tape, r2.output, by have := r2.size; omega, fun k hk hne => (r2.block k (by omega) hne).trans (heap_alloc_old w _ hk)⟩, fun b hb' => ?_⟩)
  rcases r4 with e' | e'
  · exact Or.inl (by rw [← e']; exact hb')
  · rw [hb'] at e'
    exact Or.inr (by rw [Option.some.inj e', hz1]; omega)

end Go.Proofs.YtjkfkneibcjgaaaGreatDoor
