/-
  Of right values only one and the same stand level; no conditions.
  The bytes of a number as a list ('encF'), what a slice of bytes holds ('Row8'), and small facts on both; no conditions.
-/
import Derived.Test.YtgkmdjmigehmeaaGreatDoorJ13
import Derived.WideShapes
import Derived.Test.YtgkmdjmigehmeaaGreatDoorJ00
import Derived.WalkKit
import Derived.WalkSpells
import Derived.OpenShut
set_option linter.unusedVariables false
set_option linter.unusedSimpArgs false
namespace Go.Proofs.YtgkmdjmigehmeaaGreatDoor
open Go.RowKit
set_option linter.unusedVariables false
set_option linter.unusedSimpArgs false

theorem toList_injZ {a b : ByteArray} (h : a.toList = b.toList) : a = b := by
  rw [ByteArray.toList_eq, ByteArray.toList_eq] at h
  exact Go.WideShapes.bytes_inj h

theorem form_ks {k n : Int} {s : ByteArray} {ll : Nat} {ks : List ByteArray} (h : formB k n s ll ks = true) : (k = 5 ∧ ks.length = ll) ∨ (k ≠ 5 ∧ ks = []) := by
  unfold formB formM at h
  by_cases k5 : k = 5
  · subst k5
    simp at h
    exact .inl ⟨rfl, by omega⟩
  · refine .inr ⟨k5, ?_⟩
    repeat' split at h
    all_goals simp_all

def ZeroAt (d : Nat) : Prop := ∀ v v', okB d v = true → okB d v' = true → ord v v' = 0 → v = v'

theorem lex_zero {x y : Int} (h : (if x ≠ 0 then x else y) = 0) : x = 0 ∧ y = 0 := by
  by_cases hx : x = 0
  · rw [if_neg (by omega)] at h; exact ⟨hx, h⟩
  · rw [if_pos hx] at h; exact absurd h hx

theorem ordL_zero {d : Nat} (ih : ZeroAt d) (r : Bool) : ∀ (l : List Vl) (ks : List ByteArray) (l' : List Vl) (ks' : List ByteArray), okL d l = true → okL d l' = true → (r = true → ks.length = l.length ∧ ks'.length = l'.length) → ordL r l ks l' ks' = 0 → l = l' ∧ (r = true → ks = ks')
  | [], ks, [], ks', _, _, hk, _ => ⟨rfl, fun hr => by
      obtain ⟨h1, h2⟩ := hk hr
      rw [List.eq_nil_of_length_eq_zero h1, List.eq_nil_of_length_eq_zero h2]⟩
  | [], _, _ :: _, _, _, _, _, h => by simp [ordL] at h
  | _ :: _, _, [], _, _, _, _, h => by simp [ordL] at h
  | x :: xs, ks, y :: ys, ks', h1, h2, hk, h => by
    rw [okL_cons, Bool.and_eq_true] at h1 h2
    rw [ordL_cons] at h
    cases r with
    | false =>
      simp only [Bool.false_eq_true, false_and, if_false] at h
      obtain ⟨e1, e2⟩ := lex_zero h
      have e3 := ih x y h1.1 h2.1 e1
      have e4 := ordL_zero ih false xs ks.tail ys ks'.tail h1.2 h2.2 (fun hr => by cases hr) e2
      exact ⟨by rw [e3, e4.1], fun hr => by cases hr⟩
    | true =>
      simp only [true_and] at h
      obtain ⟨e0, h⟩ := lex_zero h
      obtain ⟨e1, e2⟩ := lex_zero h
      obtain ⟨k1, k2⟩ := hk rfl
      have e3 := ih x y h1.1 h2.1 e1
      have e4 := ordL_zero ih true xs ks.tail ys ks'.tail h1.2 h2.2 (fun _ => by rw [List.length_tail, List.length_tail, k1, k2]; exact ⟨rfl, rfl⟩) e2
      refine ⟨by rw [e3, e4.1], fun _ => ?_⟩
      cases ks with
      | nil => simp at k1
      | cons t tr =>
        cases ks' with
        | nil => simp at k2
        | cons t' tr' =>
          have e5 := toList_injZ ((cmpS_zero _ _).1 e0)
          have e6 := e4.2 rfl
          simp only [List.headD_cons] at e5
          simp only [List.tail_cons] at e6
          rw [e5, e6]

theorem ord_zero : ∀ d, ZeroAt d
  | 0 => fun v v' h => by cases v; simp [okB] at h
  | d + 1 => fun v v' h h' e => by
    cases v with
    | mk k n s l ks =>
      cases v' with
      | mk k' n' s' l' ks' =>
        rw [okB, Bool.and_eq_true] at h h'
        unfold ord at e
        obtain ⟨e1, x1⟩ := lex_zero e
        obtain ⟨e2, x2⟩ := lex_zero x1
        obtain ⟨e3, x3⟩ := lex_zero x2
        clear e x1 x2
        have g1 := cmpI_zero e1
        have g2 := cmpI_zero e2
        have g3 := toList_injZ ((cmpS_zero _ _).1 e3)
        clear e1 e2 e3
        subst g1 g2 g3
        have f1 := form_ks h.1
        have f2 := form_ks h'.1
        obtain ⟨e4, e5⟩ := ordL_zero (ord_zero d) (decide (k = 5)) l ks l' ks' h.2 h'.2 (fun hr => by
          have hr := of_decide_eq_true hr
          rcases f1 with f1 | f1
          · rcases f2 with f2 | f2
            · exact ⟨f1.2, f2.2⟩
            · exact absurd hr f2.1
          · exact absurd hr f1.1) x3
        subst e4
        rcases f1 with f1 | f1
        · rw [e5 (decide_eq_true f1.1)]
        · rcases f2 with f2 | f2
          · exact absurd f2.1 f1.1
          · rw [f1.2, f2.2]

theorem ord0_zero {v v' : Vl} (h : rightB v = true) (h' : rightB v' = true) : ord0 v v' = 0 ↔ v = v' := by
  unfold ord0
  rw [h, h']
  constructor
  · intro e
    exact ord_zero 8 v v' (right_ok h) (right_ok h') e
  · intro e
    subst e
    exact ord_self v
end Go.Proofs.YtgkmdjmigehmeaaGreatDoor

namespace Go.Proofs.YtgkmdjmigehmeaaGreatDoor
open Go.RowKit


/-- the bytes of a number, in at most f + 1 groups -/
def encF : Nat → Int → List Int
  | 0, n => [n]
  | f + 1, n => if n < 128 then [n] else (n % 128 + 128) :: encF f (n / 128)

theorem encF_small (f : Nat) (n : Int) (h : n < 128) : encF f n = [n] := by
  cases f <;> simp [encF, h]

theorem encF_great (f : Nat) (n : Int) (h : ¬ n < 128) : encF (f + 1) n = (n % 128 + 128) :: encF f (n / 128) := by
  simp [encF, h]

theorem encF_len (f : Nat) (n : Int) : 1 ≤ (encF f n).length ∧ (encF f n).length ≤ f + 1 := by
  induction f generalizing n with
  | zero => simp [encF]
  | succ f ih =>
    simp only [encF]
    split
    · simp
    · have := ih (n / 128); simp; omega

/-- a slice of bytes whose elements are zs -/
structure Row8 (w : World) (ao : Option Addr) (len cap : Nat) (zs : List Int) : Prop where
  length : zs.length = len
  none : ao = none → len = 0 ∧ cap = 0
  cells : ∀ ad, ao = some ad → ∀ j u, (zs.map (Value.int .u8))[j]? = some u → w.cell? (ad.add j) = some u
  small : ∀ n ∈ zs, 0 ≤ n ∧ n ≤ 255
  le : len ≤ cap

theorem Row8.later {w w' : World} {ao : Option Addr} {len cap : Nat} {zs : List Int} (h : Row8 w ao len cap zs) (hb : Below w.heap.size w w') : Row8 w' ao len cap zs :=
  ⟨h.length, h.none, fun ad ha j u hj => cell_later hb (h.cells ad ha j u hj), h.small, h.le⟩

theorem Row8.later' {B : Nat} {w w' : World} {ao : Option Addr} {len cap : Nat} {zs : List Int} (h : Row8 w ao len cap zs) (hb : Below B w w') (hB : ∀ ad, ao = some ad → 0 < len → ad.block < B) : Row8 w' ao len cap zs :=
  ⟨h.length, h.none, fun ad ha j u hj => by
    have hl : j < zs.length := by
      have := List.getElem?_eq_some_iff.1 hj
      simpa using this.1
    have hz := h.length
    have hblk : (ad.add j).block = ad.block := by unfold Addr.add; split <;> rfl
    rw [hb.cell (p := ad.add j) (by rw [hblk]; exact hB ad ha (by omega))]
    exact h.cells ad ha j u hj, h.small, h.le⟩

theorem Row8.at {w : World} {ao : Option Addr} {len cap : Nat} {zs : List Int} (h : Row8 w ao len cap zs) (hp : 0 < len) :
    ∃ b off, ao = some ⟨b, off, Option.none⟩ ∧ ∀ j, j < len → w.cell? ⟨b, off + j, Option.none⟩ = some (.int .u8 (zs.getD j 0)) := by
  have hz := h.length
  cases ao with
  | none => have := (h.none rfl).1; omega
  | some ad =>
    have hc : ∀ i, i < zs.length → w.cell? (ad.add i) = some (.int .u8 (zs.getD i 0)) := by
      intro i hi
      refine h.cells ad rfl i _ ?_
      simp [hi]
    obtain ⟨b, off, rfl, hcc⟩ := ints_at hc (by omega)
    exact ⟨b, off, rfl, fun j hj => hcc j (by omega)⟩

theorem Row8.block {w : World} {ao : Option Addr} {len cap : Nat} {zs : List Int} (h : Row8 w ao len cap zs) (ad : Addr) (ha : ao = some ad) (hp : 0 < len) : ad.block < w.heap.size := by
  obtain ⟨b, off, rfl, hc⟩ := h.at hp
  cases ha
  exact World.block_lt_of_cell? _ _ (hc 0 hp)

/-- a row that the call itself owns, as a slice of bytes -/
theorem Row8.own {w : World} {base g n cap : Nat} {zs : List Int} (h : w.ownsRow base 5 1 (.slice (some ⟨g, 0, Option.none⟩) n cap) n (zs.map (Value.int .u8))) (hs : ∀ n ∈ zs, 0 ≤ n ∧ n ≤ 255) :
    Row8 w (some ⟨g, 0, Option.none⟩) n cap zs := by
  have hl : zs.length = n := by simpa using h.1
  refine ⟨hl, (fun e => by cases e), fun ad ha j u hj => ?_, hs, ?_⟩
  · cases ha
    exact h.cells (g := g) rfl j u hj
  · rcases h.2 with ⟨e, _⟩ | ⟨g', cap', cur, e, _, _, hle, _⟩
    · cases e
    · cases e; exact hle

theorem encF_bytes (f : Nat) (n : Int) (h0 : 0 ≤ n) (h : n < 128 ^ f * 128) : ∀ c ∈ encF f n, 0 ≤ c ∧ c ≤ 255 := by
  induction f generalizing n with
  | zero => intro c hc; simp [encF] at hc; simp at h; omega
  | succ f ih =>
    intro c hc
    simp only [encF] at hc
    split at hc
    · simp at hc; omega
    · simp at hc
      rcases hc with rfl | hc
      · omega
      · refine ih (n / 128) (by omega) ?_ c hc
        have : n < 128 * (128 ^ f * 128) := by rw [Int.pow_succ] at h; omega
        omega

theorem encF9_bytes (n : Int) (h0 : 0 ≤ n) (h : n ≤ 18446744073709551615) : ∀ c ∈ encF 9 n, 0 ≤ c ∧ c ≤ 255 :=
  encF_bytes 9 n h0 (by have e : (128 : Int) ^ 9 * 128 = 1180591620717411303424 := by decide
                        omega)

end Go.Proofs.YtgkmdjmigehmeaaGreatDoor
