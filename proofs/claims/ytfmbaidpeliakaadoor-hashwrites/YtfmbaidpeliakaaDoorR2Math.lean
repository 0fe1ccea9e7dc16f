/-
  The document's turned and its words against the code's: the same numbers; no conditions.
-/
import Derived.Test.YtfmbaidpeliakaaDoorR2Turned
import Derived.Test.YtfmbaidpeliakaaDoorH2Take
namespace Go.Proofs.YtfmbaidpeliakaaDoor
open Go.RowKit

theorem or_comm (a b : Int) : bits .or .u32 a b = bits .or .u32 b a := by
  unfold bits
  simp only [BitVec.or_comm]

theorem rotr_is (x : Int) (n : Nat) : rotr x n = rotR x n := or_comm _ _

theorem refTurned_N (x N : Int) (w : World) (h0 : 0 ≤ N) (h1 : N ≤ 32) :
    Calls Tryd.prog 20 #[.int .u32 x, .int .i64 N] w fun e w' => e = .returned (.int .u32 (rotR x N.toNat)) ∧ ∃ q, w' = w.drewN q := by
  have h := refTurned_any x N.toNat w (by omega)
  rw [show ((N.toNat : Nat) : Int) = N from by omega, rotr_is] at h
  exact h

/-- a word of four bytes, the highest first -/
def word4 (a b c d : Int) : Int := a * 16777216 + b * 65536 + c * 256 + d

theorem wrap_u32_id (n : Int) (h0 : 0 ≤ n) (h1 : n < 2 ^ 32) : IntKind.u32.wrap n = n := by
  have e : (2 : Int) ^ 32 = 4294967296 := by decide
  rw [IntKind.wrap_u32']; omega

theorem word4_or (a b c d : Int) (ha : 0 ≤ a ∧ a ≤ 255) (hb : 0 ≤ b ∧ b ≤ 255) (hc : 0 ≤ c ∧ c ≤ 255) (hd : 0 ≤ d ∧ d ≤ 255) :
    bits .or .u32 (bits .or .u32 (bits .or .u32 (a % 4294967296 * 16777216 % 4294967296) (b % 4294967296 * 65536 % 4294967296)) (c % 4294967296 * 256 % 4294967296)) (d % 4294967296) = word4 a b c d := by
  have e32 : (2 : Int) ^ 32 = 4294967296 := by decide
  have e24 : (2 : Int) ^ 24 = 16777216 := by decide
  have e16 : (2 : Int) ^ 16 = 65536 := by decide
  have e8 : (2 : Int) ^ 8 = 256 := by decide
  have x1 : a % 4294967296 * 16777216 % 4294967296 = a * 16777216 := by omega
  have x2 : b % 4294967296 * 65536 % 4294967296 = b * 65536 := by omega
  have x3 : c % 4294967296 * 256 % 4294967296 = c * 256 := by omega
  have x4 : d % 4294967296 = d := by omega
  rw [x1, x2, x3, x4]
  rw [bits_join .u32 32 (by decide) wrap_u32_id 24 (a * 16777216) (b * 65536) (by omega) (by omega) (by omega) (by omega) (by omega) (by omega)]
  rw [bits_join .u32 32 (by decide) wrap_u32_id 16 (a * 16777216 + b * 65536) (c * 256) (by omega) (by omega) (by omega) (by omega) (by omega) (by omega)]
  rw [bits_join .u32 32 (by decide) wrap_u32_id 8 (a * 16777216 + b * 65536 + c * 256) d (by omega) (by omega) (by omega) (by omega) (by omega) (by omega)]
  rfl

theorem oneMore_is (x c : Int) (hx : 0 ≤ x ∧ x ≤ 16777215) (hc : 0 ≤ c ∧ c ≤ 255) : oneMore x c = x * 256 + c := by
  have e32 : (2 : Int) ^ 32 = 4294967296 := by decide
  have e8 : (2 : Int) ^ 8 = 256 := by decide
  unfold oneMore
  rw [show x * 256 % 4294967296 = x * 256 by omega]
  exact bits_join .u32 32 (by decide) wrap_u32_id 8 (x * 256) c (by omega) (by omega) (by omega) (by omega) (by omega) (by omega)

theorem oneMore4 (a b c d : Int) (ha : 0 ≤ a ∧ a ≤ 255) (hb : 0 ≤ b ∧ b ≤ 255) (hc : 0 ≤ c ∧ c ≤ 255) (hd : 0 ≤ d ∧ d ≤ 255) : oneMore (oneMore (oneMore (oneMore 0 a) b) c) d = word4 a b c d := by
  rw [oneMore_is 0 a (by omega) ha, oneMore_is _ b (by omega) hb, oneMore_is _ c (by omega) hc, oneMore_is _ d (by omega) hd]
  unfold word4
  omega

/-- the document's next word -/
def nextW (bs ws : List Int) (t : Nat) : Int :=
  if t < 16 then word4 (bs.getD (4 * t) 0) (bs.getD (4 * t + 1) 0) (bs.getD (4 * t + 2) 0) (bs.getD (4 * t + 3) 0)
  else add32 (add32 (add32 (ws.getD (t - 16) 0) (ws.getD (t - 7) 0)) (sgm0 (ws.getD (t - 15) 0))) (sgm1 (ws.getD (t - 2) 0))

/-- the document's words, one behind the other -/
def refL (bs : List Int) : Nat → List Int
  | 0 => List.replicate 64 0
  | t + 1 => (refL bs t).set t (nextW bs (refL bs t) t)

theorem refL_len (bs : List Int) (t : Nat) : (refL bs t).length = 64 := by
  induction t with
  | zero => simp [refL]
  | succ t ih => simp [refL, ih]

theorem nextW_bounds (bs ws : List Int) (t : Nat) (hb : ∀ c ∈ bs, 0 ≤ c ∧ c ≤ 255) : 0 ≤ nextW bs ws t ∧ nextW bs ws t ≤ 4294967295 := by
  unfold nextW
  split
  · have h0 := getD_bounds hb (by omega) (4 * t)
    have h1 := getD_bounds hb (by omega) (4 * t + 1)
    have h2 := getD_bounds hb (by omega) (4 * t + 2)
    have h3 := getD_bounds hb (by omega) (4 * t + 3)
    unfold word4
    omega
  · exact add32_bounds _ _

theorem refL_bounds (bs : List Int) (hb : ∀ c ∈ bs, 0 ≤ c ∧ c ≤ 255) (t : Nat) : ∀ y ∈ refL bs t, 0 ≤ y ∧ y ≤ 4294967295 := by
  induction t with
  | zero => intro y hy; rw [List.eq_of_mem_replicate hy]; omega
  | succ t ih => exact mem_set' _ _ _ (nextW_bounds _ _ _ hb) ih

theorem refL_zero (bs : List Int) : ∀ t j, t ≤ j → (refL bs t).getD j 0 = 0
  | 0, j, _ => by
    simp only [refL, List.getD_eq_getElem?_getD, List.getElem?_replicate]
    split <;> rfl
  | t + 1, j, h => by
    have ih := refL_zero bs t j (by omega)
    rw [List.getD_eq_getElem?_getD] at ih ⊢
    show (((refL bs t).set t _)[j]?).getD 0 = 0
    rw [List.getElem?_set_ne (by omega)]
    exact ih

theorem getD_set_same (ws : List Int) (t : Nat) (x : Int) (h : t < ws.length) : (ws.set t x).getD t 0 = x := by
  rw [List.getD_eq_getElem?_getD, List.getElem?_set_self h]
  rfl

theorem set_set' (ws : List Int) (t : Nat) (x y : Int) : (ws.set t x).set t y = ws.set t y := by simp

theorem ref_fill (bs : List Int) (hb : ∀ c ∈ bs, 0 ≤ c ∧ c ≤ 255) : ∀ t, t ≤ 16 → refL bs t = fill bs (4 * t)
  | 0, _ => rfl
  | t + 1, h => by
    have ih := ref_fill bs hb t (by omega)
    have hl := refL_len bs t
    have hz := refL_zero bs t t (Nat.le_refl _)
    rw [show 4 * (t + 1) = 4 * t + 1 + 1 + 1 + 1 from by omega]
    simp only [fill]
    rw [show (4 * t + 1 + 1 + 1) / 4 = t by omega, show (4 * t + 1 + 1) / 4 = t by omega, show (4 * t + 1) / 4 = t by omega, show (4 * t) / 4 = t by omega, ← ih, hz]
    have g := fun x => getD_set_same (refL bs t) t x (by omega)
    simp only [set_set', g]
    show (refL bs t).set t (nextW bs (refL bs t) t) = _
    rw [show nextW bs (refL bs t) t = word4 (bs.getD (4 * t) 0) (bs.getD (4 * t + 1) 0) (bs.getD (4 * t + 2) 0) (bs.getD (4 * t + 3) 0) by unfold nextW; rw [if_pos (by omega)]]
    rw [oneMore4 _ _ _ _ (getD_bounds hb (by omega) _) (getD_bounds hb (by omega) _) (getD_bounds hb (by omega) _) (getD_bounds hb (by omega) _)]

theorem add_turn (a b c d : Int) : add32 (add32 (add32 a b) c) d = add32 (add32 (add32 a c) b) d := by
  unfold add32
  simp only [IntKind.wrap_u32']
  omega

theorem ref_more (bs : List Int) (hb : ∀ c ∈ bs, 0 ≤ c ∧ c ≤ 255) : ∀ k, refL bs (16 + k) = more (fill bs 64) k
  | 0 => ref_fill bs hb 16 (by omega)
  | k + 1 => by
    have ih := ref_more bs hb k
    show (refL bs (16 + k)).set (16 + k) (nextW bs (refL bs (16 + k)) (16 + k)) = (more (fill bs 64) k).set (16 + k) (later (more (fill bs 64) k) (16 + k))
    rw [ih]
    unfold nextW later
    rw [if_neg (by omega), add_turn]

theorem ref_spread (bs : List Int) (hb : ∀ c ∈ bs, 0 ≤ c ∧ c ≤ 255) : refL bs 64 = spreadL bs := ref_more bs hb 48
end Go.Proofs.YtfmbaidpeliakaaDoor
