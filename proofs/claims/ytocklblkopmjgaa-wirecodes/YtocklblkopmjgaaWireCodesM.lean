/-
  Encode and Decode answer what the document's own do, of every value and of all bytes (WireCodesSaid); no condition but the form's own reach.
-/
import Derived.Test.YtocklblkopmjgaaRows
import Derived.Test.YtocklblkopmjgaaWRfPE
import Derived.Test.YtocklblkopmjgaaWRfART
import Derived.Test.YtocklblkopmjgaaWOneS
import Derived.Test.YtocklblkopmjgaaVOpen8
import Derived.ShutString
import Derived.ChangeOld
namespace Go.Proofs.Ytocklblkopmjgaa.wireCodes
open Go.ChangeShapes Go.WideShapes Go.ChangeAt Go.RowKit
set_option linter.unusedVariables false

theorem own : ownKnob Try.prog.godebug = none := by kernel_rfl
theorem laidOut : laidOutB Try.prog = true := by kernel_rfl

theorem sm_same (v : Vl) : smB v v = true := by
  have := (sameB_iff v v).2 rfl
  simp [smB, this]

/-- bytes as a text, wherever they lie -/
theorem conv8 {w : World} {ao : Option Addr} {len cap : Nat} {zs : List Int} (h : Row8 w ao len cap zs) : Sem.run Try.prog (convert 44 9 (.slice ao len cap)) w = .ok (.string (strOfNums zs)) w := by
  have hl := h.length
  by_cases h0 : len = 0
  · subst h0
    obtain rfl := List.eq_nil_of_length_eq_zero hl
    have hz : (strOfNums []) = ByteArray.empty := by rfl
    rw [hz, run_convert_bytes_string w 44 9 5 _ 0 cap Try.underlying44 Try.underlying5 Try.underlying9]
    cases ao <;> simp [Conv.bytesToString, loadCells]
    all_goals rfl
  · obtain ⟨b, off, rfl, hc⟩ := h.at (by omega)
    have h1 := conv_row hl hc 0 len cap (by omega) 0
    rw [List.drop_zero, List.take_of_length_le (by omega)] at h1
    exact h1

/-- the value that Decode tells, the place, the error -/
def dVal : Except (Int × Int) Vl → Vl
  | .error _ => .mk 0 0 ⟨#[]⟩ [] []
  | .ok v => v
def dPos : Except (Int × Int) Vl → Int
  | .error p => p.2
  | .ok _ => 0
def dErr : Except (Int × Int) Vl → Int
  | .error p => p.1
  | .ok _ => 0

/-- Decode, told in one way -/
def DecU (w : World) (r : Except (Int × Int) Vl) (e : Ending) (w' : World) : Prop :=
  ∃ k n s al ll cl ak m ck, e = .returned (.tuple #[.agg #[.int .i64 k, .int .i64 n, .string s, .slice al ll cl, .slice ak m ck], .int .i64 (dPos r), .int .i64 (dErr r)]) ∧ IsP w' (fun b => w.heap.size ≤ b ∧ b < w'.heap.size) (dVal r) (.agg #[.int .i64 k, .int .i64 n, .string s, .slice al ll cl, .slice ak m ck]) ∧ Below w.heap.size w w'

theorem decU {w : World} {r : Except (Int × Int) Vl} {e : Ending} {w' : World} (h : ResD w r e w') : DecU w r e w' := by
  cases r with
  | error p =>
    obtain ⟨rfl, b⟩ := h
    exact ⟨_, _, _, _, _, _, _, _, _, rfl, plain_val w' _ 0 0 ⟨#[]⟩ (by omega) (by omega) (by rw [e0s]; omega), b⟩
  | ok v =>
    obtain ⟨x, rfl, p, b⟩ := h
    obtain ⟨k, n, s, l, ks, al, ak, cl, ck, _, rfl⟩ := p.shape
    exact ⟨_, _, _, _, _, _, _, _, _, rfl, p, b⟩

theorem enc_true : wenc0R (.mk 1 1 ⟨#[]⟩ [] []) = [2] ∧ codeR (.mk 1 1 ⟨#[]⟩ [] []) = 0 := by
  have hr : rightB (.mk 1 1 ⟨#[]⟩ [] []) = true := by simp [rightB, okB, formB, formM, okL_nil, wt, keysW, wtL_nil, e0s]
  refine ⟨?_, by simp [codeR, hr]⟩
  simp only [wenc0R, hr, if_true]
  rw [wenc1]
  rfl

theorem new_var (u : World) (A : Array Value) (G : Nat) (hG : u.heap.size = G) :
    (u.alloc (.cells A 27)).heap[G]? = some (.cells A 27 (0, 0)) ∧ Below G u (u.alloc (.cells A 27)) ∧ (u.alloc (.cells A 27)).heap.size = G + 1 := by
  subst hG
  exact ⟨heap_alloc_new u _, (Below.refl _ _).alloc (Nat.le_refl _) _, by simp⟩

set_option maxRecDepth 100000 in
set_option maxHeartbeats 2000000 in
theorem walk (v : Vl) (x : Value) (ab : Option Addr) (lb cb : Nat) (zs : List Int) (w : World) (hv : IsV w w.heap.size v x) (hz : Row8 w ab lb cb zs) (hm0 : cb ≤ maxLen) :
    Calls Try.prog 8 #[x, .slice ab lb cb] w fun e w' => e = .returned (.bool true) ∧ Below w.heap.size w w' := by
  obtain ⟨k, n, s, l, ks, al, ak, cl, ck, hvv, hx⟩ := hv.shape
  clear hvv
  obtain ⟨m, hm⟩ : ∃ m, ks.length = m := ⟨_, rfl⟩
  obtain ⟨ln, hln⟩ : ∃ ln, l.length = ln := ⟨_, rfl⟩
  rw [hm, hln] at hx
  subst hx
  obtain ⟨w1, hw1⟩ : ∃ w1, w.alloc (.cells #[.int .i64 k, .int .i64 n, .string s, .slice al ln cl, .slice ak m ck] 27) = w1 := ⟨_, rfl⟩
  have BX := Box.mk' w (.int .i64 k) (.int .i64 n) (.string s) (.slice al ln cl) (.slice ak m ck)
  rw [hw1] at BX
  obtain ⟨c0, c1, c2, c3, c4⟩ := row_cell BX.row
  have HT : Hid (∀ u, Below w1.heap.size w1 u → u.heap[w.heap.size]? = some (.cells #[.int .i64 k, .int .i64 n, .string s, .slice al ln cl, .slice ak m ck] 27 (0, 0)) ∧ IsV u u.heap.size v (.agg #[.int .i64 k, .int .i64 n, .string s, .slice al ln cl, .slice ak m ck]) ∧ Below w.heap.size w u ∧ Row8 u ab lb cb zs) := hide (fun u hu => by
    have hz1 := BX.size
    have h1 : Below w.heap.size w u := BX.below.trans (hu.mono (by omega))
    exact ⟨(hu.block _ (by omega)).trans BX.row, (hv.mono h1).lift h1.size, h1, hz.later h1⟩)
  have X1 : Hid (Below w1.heap.size w1 w1) := hide (Below.refl _ _)
  have CC := hide (copied_any v _ _ w1 (unhide HT w1 (unhide X1)).2.1 (Nat.le_refl _))
  obtain ⟨Z, hZ⟩ : ∃ Z, wenc0R v = Z := ⟨_, rfl⟩
  obtain ⟨C, hC⟩ : ∃ C, codeR v = C := ⟨_, rfl⟩
  have CE : Hid (∀ (u : World) (y : Value), IsV u u.heap.size v y → Calls Try.prog 34 #[y] u fun e w' => ∃ (ao : Option Addr) (len cap : Nat), e = .returned (.tuple #[.slice ao len cap, .int .i64 C]) ∧ Row8 w' ao len cap Z ∧ Below u.heap.size u w') := hide (fun u y hy => by
    have := encode_any v y _ u hy (Nat.le_refl _)
    rw [hZ, hC] at this
    exact this.mono fun e w' ⟨a, l, c, h1, h2, h3, _⟩ => ⟨a, l, c, h1, h2, h3⟩)
  have CF : Hid (∀ (u : World), Below w1.heap.size w1 u → Calls Try.prog 35 #[.agg #[.int .i64 k, .int .i64 n, .string s, .slice al ln cl, .slice ak m ck]] u fun e w' => ∃ (ao : Option Addr) (len cap : Nat), e = .returned (.tuple #[.slice ao len cap, .int .i64 C]) ∧ Row8 w' ao len cap Z ∧ Below u.heap.size u w' ∧ cap ≤ maxLen) := hide (fun u hu => by
    have := encode_f v _ _ u (unhide HT u hu).2.1 (Nat.le_refl _)
    rw [hZ, hC] at this
    exact this.mono fun e w' ⟨a, l, c, h1, h2, h3, _, h5⟩ => ⟨a, l, c, h1, h2, h3, h5⟩)
  have CD : Hid (∀ (u : World) (ao : Option Addr) (len cap : Nat) (ys : List Int), Row8 u ao len cap ys → cap ≤ maxLen → Calls Try.prog 36 #[.slice ao len cap] u fun e w' => DecU u (decR ys) e w') := hide (fun u ao len cap ys h hm => (decode_any ao len cap ys u h hm).mono fun e w' h => decU h)
  have CG : Hid (∀ (u : World) (ao : Option Addr) (len cap : Nat) (ys : List Int), Row8 u ao len cap ys → cap ≤ maxLen → Calls Try.prog 37 #[.slice ao len cap] u fun e w' => DecU u (decR ys) e w') := hide (fun u ao len cap ys h hm => (decode_f ao len cap ys u h hm).mono fun e w' h => decU h)
  have CS : Hid (∀ (u : World) (q : Vl) (y y' : Value), IsV u u.heap.size q y → IsV u u.heap.size q y' → Calls Try.prog 26 #[y, y'] u fun e w' => e = .returned (.bool true) ∧ Below u.heap.size u w') := hide (fun u q y y' h h' => by
    have := same_any q q y y' _ u h h' (Nat.le_refl _)
    rw [sm_same] at this
    exact this)
  have CB : Hid (∀ (u : World), Calls Try.prog 34 #[.agg #[.int .i64 1, .int .i64 1, .string ⟨#[]⟩, .slice none 0 0, .slice none 0 0]] u fun e w' => ∃ (ao : Option Addr) (len cap : Nat), e = .returned (.tuple #[.slice ao len cap, .int .i64 0]) ∧ Row8 w' ao len cap [2] ∧ Below u.heap.size u w') := hide (fun u => by
    have := encode_any (.mk 1 1 ⟨#[]⟩ [] []) _ _ u (plain_val u (fun b => b < u.heap.size) 1 1 ⟨#[]⟩ (by omega) (by omega) (by rw [e0s]; omega)) (Nat.le_refl _)
    rw [enc_true.1, enc_true.2] at this
    exact this.mono fun e w' ⟨a, l, c, h1, h2, h3, _⟩ => ⟨a, l, c, h1, h2, h3⟩)
  obtain ⟨T, hT⟩ : ∃ T, strOfNums Z = T := ⟨_, rfl⟩
  have HTT := hide hT
  have HM0 := hide hm0
  have z1 := BX.size
  have Z1 := hide z1
  clear BX hv hm hln hz hZ hC hT hm0 z1
  go_enter Try.func8, Try.ntmps8
  go_wp2_with fail
  refine (unhide CC).mono ?_
  rintro e u2 ⟨y, rfl, hy, b2⟩
  have X2 : Hid (Below w1.heap.size w1 u2) := hide b2
  have C2 := hide (unhide CE u2 y hy)
  obtain ⟨k', n', s', l', ks', al', ak', cl', ck', hy', rfl⟩ := hy.shape
  clear b2 CC CE hy'
  go_wp2_with fail
  refine (unhide C2).mono ?_
  rintro e u3 ⟨a3, l3, p3, rfl, r3, b3⟩
  have X3 : Hid (Below w1.heap.size w1 u3) := hide ((unhide X2).trans (b3.mono (unhide X2).size))
  have R3 := hide r3
  clear b3 C2 hy c0 c1 c2 c3 c4 r3
  obtain ⟨c0, c1, c2, c3, c4⟩ := row_cell (unhide HT u3 (unhide X3)).1
  go_wp2_with fail
  refine (unhide CF u3 (unhide X3)).mono ?_
  rintro e u4 ⟨a4, l4, p4, rfl, r4, b4, m4⟩
  have X4 : Hid (Below w1.heap.size w1 u4) := hide ((unhide X3).trans (b4.mono (unhide X3).size))
  have t3 : Sem.run Try.prog (convert 44 9 (.slice a3 l3 p3)) u4 = .ok (.string T) u4 := by
    have := conv8 ((unhide R3).later b4)
    rw [unhide HTT] at this
    exact this
  have t4 : Sem.run Try.prog (convert 44 9 (.slice a4 l4 p4)) u4 = .ok (.string T) u4 := by
    have := conv8 r4
    rw [unhide HTT] at this
    exact this
  have R4 := hide (And.intro r4 m4)
  have C5 := hide (unhide CD u4 ab lb cb zs (unhide HT u4 (unhide X4)).2.2.2 (unhide HM0))
  clear b4 c0 c1 c2 c3 c4 r4 R3 CF m4
  obtain ⟨D, hD⟩ : ∃ D, decR zs = D := ⟨_, rfl⟩
  rw [hD] at C5
  go_wp2_with fail
  refine (unhide C5).mono ?_
  rintro e u5 ⟨k5, n5, s5, al5, ll5, cl5, ak5, m5, ck5, rfl, q5, b5⟩
  have X5 : Hid (Below w1.heap.size w1 u5) := hide ((unhide X4).trans (b5.mono (unhide X4).size))
  have H5 := hide (And.intro q5 b5)
  clear q5 b5 C5 t3 t4
  go_upto_region 6 with fail
  obtain ⟨G5, hG5⟩ : ∃ G, u5.heap.size = G := ⟨_, rfl⟩
  have N5 := new_var u5 #[.int .i64 k5, .int .i64 n5, .string s5, .slice al5 ll5 cl5, .slice ak5 m5 ck5] G5 hG5
  simp only [hG5]
  obtain ⟨w5, hw5⟩ : ∃ w5, u5.alloc (.cells #[.int .i64 k5, .int .i64 n5, .string s5, .slice al5 ll5 cl5, .slice ak5 m5 ck5] 27) = w5 := ⟨_, rfl⟩
  rw [hw5] at N5 ⊢
  have XW5 : Hid (Below w1.heap.size w1 w5) := hide ((unhide X5).trans (N5.2.1.mono (by rw [← hG5]; exact (unhide X5).size)))
  have B45 : Below u4.heap.size u4 w5 := (unhide H5).2.trans (N5.2.1.mono (by rw [← hG5]; exact (unhide H5).2.size))
  have Q5 : Hid (∀ u, Below w5.heap.size w5 u → u.heap[G5]? = some (.cells #[.int .i64 k5, .int .i64 n5, .string s5, .slice al5 ll5 cl5, .slice ak5 m5 ck5] 27 (0, 0)) ∧ IsV u u.heap.size (dVal D) (.agg #[.int .i64 k5, .int .i64 n5, .string s5, .slice al5 ll5 cl5, .slice ak5 m5 ck5]) ∧ Below w1.heap.size w1 u ∧ Row8 u a4 l4 p4 Z) := hide (fun u hu => by
    have hs := N5.2.2
    have b5u : Below u5.heap.size u5 u := by rw [hG5]; exact N5.2.1.trans (hu.mono (by omega))
    exact ⟨(hu.block G5 (by omega)).trans N5.1, ((unhide H5).1.move (fun c hc => b5u.block c hc.2)).isV (fun c hc => Nat.lt_of_lt_of_le hc.2 b5u.size), (unhide XW5).trans (hu.mono (unhide XW5).size), ((unhide R4).1.later B45).later hu⟩)
  have H5b : Hid (True ∧ Below u4.heap.size u4 w5) := hide ⟨trivial, B45⟩
  have HG5 : Hid (w5.heap.size = G5 + 1 ∧ u4.heap.size ≤ G5) := hide ⟨N5.2.2, by rw [← hG5]; exact (unhide H5).2.size⟩
  have C6 := hide (unhide CG w5 ab lb cb zs (unhide HT w5 (unhide XW5)).2.2.2 (unhide HM0))
  rw [hD] at C6
  clear hw5 N5 hG5 H5 B45 hD
  go_wp2_with fail
  refine (unhide C6).mono ?_
  rintro e u6 ⟨k6, n6, s6, al6, ll6, cl6, ak6, m6, ck6, rfl, q6, b6⟩
  have H6 := hide (And.intro q6 b6)
  clear q6 b6 C6
  go_upto_region 7 with fail
  obtain ⟨G6, hG6⟩ : ∃ G, u6.heap.size = G := ⟨_, rfl⟩
  have N6 := new_var u6 #[.int .i64 k6, .int .i64 n6, .string s6, .slice al6 ll6 cl6, .slice ak6 m6 ck6] G6 hG6
  simp only [hG6]
  obtain ⟨w6, hw6⟩ : ∃ w6, u6.alloc (.cells #[.int .i64 k6, .int .i64 n6, .string s6, .slice al6 ll6 cl6, .slice ak6 m6 ck6] 27) = w6 := ⟨_, rfl⟩
  rw [hw6] at N6 ⊢
  have XW6 : Below w5.heap.size w5 w6 := (unhide H6).2.trans (N6.2.1.mono (by rw [← hG6]; exact (unhide H6).2.size))
  have Q6 : Hid (∀ u, Below w6.heap.size w6 u → u.heap[G6]? = some (.cells #[.int .i64 k6, .int .i64 n6, .string s6, .slice al6 ll6 cl6, .slice ak6 m6 ck6] 27 (0, 0)) ∧ IsV u u.heap.size (dVal D) (.agg #[.int .i64 k6, .int .i64 n6, .string s6, .slice al6 ll6 cl6, .slice ak6 m6 ck6]) ∧ Below w5.heap.size w5 u) := hide (fun u hu => by
    have hs := N6.2.2
    have b6u : Below u6.heap.size u6 u := by rw [hG6]; exact N6.2.1.trans (hu.mono (by omega))
    exact ⟨(hu.block G6 (by omega)).trans N6.1, ((unhide H6).1.move (fun c hc => b6u.block c hc.2)).isV (fun c hc => Nat.lt_of_lt_of_le hc.2 b6u.size), XW6.trans (hu.mono XW6.size)⟩)
  have HG6 : Hid (w6.heap.size = G6 + 1 ∧ G5 + 1 ≤ G6) := hide ⟨N6.2.2, by rw [← hG6, ← (unhide HG5).1]; exact (unhide H6).2.size⟩
  obtain ⟨c0, c1, c2, c3, c4⟩ := row_cell (unhide Q5 w6 XW6).1
  obtain ⟨d0, d1, d2, d3, d4⟩ := row_cell (unhide Q6 w6 (Below.refl _ _)).1
  have C7 := hide (unhide CS w6 (dVal D) _ _ (unhide Q5 w6 XW6).2.1 (unhide Q6 w6 (Below.refl _ _)).2.1)
  clear hw6 N6 hG6 H6 XW6
  go_wp2_with fail
  refine (unhide C7).mono ?_
  rintro e u7 ⟨rfl, b7⟩
  have X7 := hide b7
  obtain ⟨E, hE⟩ : ∃ E, decR Z = E := ⟨_, rfl⟩
  have C8 := hide (unhide CD u7 a4 l4 p4 Z (unhide Q5 u7 (unhide Q6 u7 b7).2.2).2.2.2 (unhide R4).2)
  rw [hE] at C8
  clear b7 C7 c0 c1 c2 c3 c4 d0 d1 d2 d3 d4
  go_wp2_with fail
  refine (unhide C8).mono ?_
  rintro e u8 ⟨k8, n8, s8, al8, ll8, cl8, ak8, m8, ck8, rfl, q8, b8⟩
  have X8 := hide ((unhide X7).trans (b8.mono (unhide X7).size))
  have H8 := hide (And.intro q8 b8)
  have at8 := (unhide Q5 u8 (unhide Q6 u8 (unhide X8)).2.2).1
  obtain ⟨c0, c1, c2, c3, c4⟩ := row_cell at8
  have fz0 := frozen_of_row u8 G5 0 _ _ at8
  have fz1 := frozen_of_row u8 G5 1 _ _ at8
  have fz2 := frozen_of_row u8 G5 2 _ _ at8
  have fz3 := frozen_of_row u8 G5 3 _ _ at8
  have fz4 := frozen_of_row u8 G5 4 _ _ at8
  have HA8 := hide at8
  clear q8 b8 C8 at8
  go_upto_region 10 with fail
  have R9 := five_set u8 G5 27 _ _ _ _ _ (.int .i64 k8) (.int .i64 n8) (.string s8) (.slice al8 ll8 cl8) (.slice ak8 m8 ck8) (unhide HA8)
  have O9 := fun c hc => five_other u8 G5 c (.int .i64 k8) (.int .i64 n8) (.string s8) (.slice al8 ll8 cl8) (.slice ak8 m8 ck8) hc
  have B9 := five_below (Below.refl G5 u8) (Nat.le_refl _) (.int .i64 k8) (.int .i64 n8) (.string s8) (.slice al8 ll8 cl8) (.slice ak8 m8 ck8)
  have S9 : (((((u8.setCell ⟨G5, 0, none⟩ (.int .i64 k8)).setCell ⟨G5, 1, none⟩ (.int .i64 n8)).setCell ⟨G5, 2, none⟩ (.string s8)).setCell ⟨G5, 3, none⟩ (.slice al8 ll8 cl8)).setCell ⟨G5, 4, none⟩ (.slice ak8 m8 ck8)).heap.size = u8.heap.size := by simp
  generalize (((((u8.setCell ⟨G5, 0, none⟩ (.int .i64 k8)).setCell ⟨G5, 1, none⟩ (.int .i64 n8)).setCell ⟨G5, 2, none⟩ (.string s8)).setCell ⟨G5, 3, none⟩ (.slice al8 ll8 cl8)).setCell ⟨G5, 4, none⟩ (.slice ak8 m8 ck8)) = w9 at R9 O9 B9 S9 ⊢
  have hG56 := (unhide HG6).2
  have hz8 : G6 + 1 ≤ u7.heap.size ∧ u7.heap.size ≤ u8.heap.size := by
    have h1 := (unhide X7).size
    have h2 := (unhide H8).2.size
    have h3 := (unhide HG6).1
    omega
  have Q9 : Hid (∀ u, Below w9.heap.size w9 u → u.heap[G5]? = some (.cells #[.int .i64 k8, .int .i64 n8, .string s8, .slice al8 ll8 cl8, .slice ak8 m8 ck8] 27 (0, 0)) ∧ u.heap[G6]? = some (.cells #[.int .i64 k6, .int .i64 n6, .string s6, .slice al6 ll6 cl6, .slice ak6 m6 ck6] 27 (0, 0)) ∧ IsP u (fun b => G6 + 1 ≤ b ∧ b < w9.heap.size) (dVal E) (.agg #[.int .i64 k8, .int .i64 n8, .string s8, .slice al8 ll8 cl8, .slice ak8 m8 ck8]) ∧ Below w.heap.size w u ∧ Row8 u a4 l4 p4 Z) := hide (fun u hu => by
    have h6 := unhide Q6 u8 (unhide X8)
    have h5 := unhide Q5 u8 h6.2.2
    refine ⟨(hu.block G5 (by omega)).trans R9, ((hu.block G6 (by omega)).trans (O9 G6 (by omega))).trans h6.1, ((unhide H8).1.move (fun c hc => (hu.block c (by omega)).trans (O9 c (by omega)))).weak (fun c hc => ⟨by omega, by omega⟩), ?_, ?_⟩
    · have h1 := (unhide HT u8 h5.2.2.1).2.2.1
      have h2 := (unhide XW5).size
      have h3 := unhide Z1
      have h4 := (unhide HG5).2
      have h7 := (unhide X4).size
      exact h1.trans ((B9.mono (by omega)).trans (hu.mono (by have := h1.size; omega)))
    · have h4 := (unhide R4).1
      have hb9 : Below u4.heap.size u4 u8 := by
        have h1 := (unhide HG5).2
        have h2 := (unhide HG5).1
        have h3 := (unhide H5b).2
        exact h3.trans (h6.2.2.mono (by omega))
      exact ((h4.later hb9).later' (B9.mono (unhide HG5).2) (fun ad he hp => h4.block ad he hp)).later hu)
  have C10 := hide (unhide CG w9 a4 l4 p4 Z (unhide Q9 w9 (Below.refl _ _)).2.2.2.2 (unhide R4).2)
  rw [hE] at C10
  have HZ8 := hide (And.intro S9 hz8)
  clear R9 O9 B9 S9 hE c0 c1 c2 c3 c4 fz0 fz1 fz2 fz3 fz4 hz8 HA8
  go_wp2_with fail
  refine (unhide C10).mono ?_
  rintro e u10 ⟨k10, n10, s10, al10, ll10, cl10, ak10, m10, ck10, rfl, q10, b10⟩
  have H10 := hide (And.intro q10 b10)
  have at10 := (unhide Q9 u10 b10).2.1
  obtain ⟨c0, c1, c2, c3, c4⟩ := row_cell at10
  have fz0 := frozen_of_row u10 G6 0 _ _ at10
  have fz1 := frozen_of_row u10 G6 1 _ _ at10
  have fz2 := frozen_of_row u10 G6 2 _ _ at10
  have fz3 := frozen_of_row u10 G6 3 _ _ at10
  have fz4 := frozen_of_row u10 G6 4 _ _ at10
  have HA10 := hide at10
  clear q10 b10 C10 at10
  go_upto_region 11 with fail
  have R11 := five_set u10 G6 27 _ _ _ _ _ (.int .i64 k10) (.int .i64 n10) (.string s10) (.slice al10 ll10 cl10) (.slice ak10 m10 ck10) (unhide HA10)
  have O11 := fun c hc => five_other u10 G6 c (.int .i64 k10) (.int .i64 n10) (.string s10) (.slice al10 ll10 cl10) (.slice ak10 m10 ck10) hc
  have B11 := five_below (Below.refl G6 u10) (Nat.le_refl _) (.int .i64 k10) (.int .i64 n10) (.string s10) (.slice al10 ll10 cl10) (.slice ak10 m10 ck10)
  have S11 : (((((u10.setCell ⟨G6, 0, none⟩ (.int .i64 k10)).setCell ⟨G6, 1, none⟩ (.int .i64 n10)).setCell ⟨G6, 2, none⟩ (.string s10)).setCell ⟨G6, 3, none⟩ (.slice al10 ll10 cl10)).setCell ⟨G6, 4, none⟩ (.slice ak10 m10 ck10)).heap.size = u10.heap.size := by simp
  generalize (((((u10.setCell ⟨G6, 0, none⟩ (.int .i64 k10)).setCell ⟨G6, 1, none⟩ (.int .i64 n10)).setCell ⟨G6, 2, none⟩ (.string s10)).setCell ⟨G6, 3, none⟩ (.slice al10 ll10 cl10)).setCell ⟨G6, 4, none⟩ (.slice ak10 m10 ck10)) = w11 at R11 O11 B11 S11 ⊢
  have Q11 : Hid (∀ u, Below w11.heap.size w11 u → u.heap[G5]? = some (.cells #[.int .i64 k8, .int .i64 n8, .string s8, .slice al8 ll8 cl8, .slice ak8 m8 ck8] 27 (0, 0)) ∧ u.heap[G6]? = some (.cells #[.int .i64 k10, .int .i64 n10, .string s10, .slice al10 ll10 cl10, .slice ak10 m10 ck10] 27 (0, 0)) ∧ IsV u u.heap.size (dVal E) (.agg #[.int .i64 k8, .int .i64 n8, .string s8, .slice al8 ll8 cl8, .slice ak8 m8 ck8]) ∧ IsV u u.heap.size (dVal E) (.agg #[.int .i64 k10, .int .i64 n10, .string s10, .slice al10 ll10 cl10, .slice ak10 m10 ck10]) ∧ Below w.heap.size w u) := hide (fun u hu => by
    have h9 := unhide Q9 u10 (unhide H10).2
    have hz9 := unhide HZ8
    have hb := (unhide H10).2.size
    have hus := hu.size
    have h56 := (unhide HG6).2
    have h5 := (unhide HG5).2
    refine ⟨((hu.block G5 (by omega)).trans (O11 G5 (by omega))).trans h9.1, (hu.block G6 (by omega)).trans R11, (h9.2.2.1.move (fun c hc => (hu.block c (by omega)).trans (O11 c (by omega)))).isV (fun c hc => by omega), ((unhide H10).1.move (fun c hc => (hu.block c (by omega)).trans (O11 c (by omega)))).isV (fun c hc => by omega), ?_⟩
    have h1 := h9.2.2.2.1
    have h2 := unhide Z1
    have h3 := (unhide X4).size
    exact h1.trans ((B11.mono (by omega)).trans (hu.mono (by have := h1.size; omega))))
  clear R11 O11 B11 S11 c0 c1 c2 c3 c4 fz0 fz1 fz2 fz3 fz4 HA10
  go_wp2_with fail
  refine (unhide CB w11).mono ?_
  rintro e u12 ⟨a12, l12, p12, rfl, r12, b12⟩
  have X12 := hide b12
  have R12 := hide r12
  obtain ⟨c0, c1, c2, c3, c4⟩ := row_cell (unhide Q11 u12 b12).1
  obtain ⟨d0, d1, d2, d3, d4⟩ := row_cell (unhide Q11 u12 b12).2.1
  have C12 := hide (unhide CS u12 (dVal E) _ _ (unhide Q11 u12 b12).2.2.1 (unhide Q11 u12 b12).2.2.2.1)
  clear b12 r12
  go_wp2_with fail
  refine (unhide C12).mono ?_
  rintro e u13 ⟨rfl, b13⟩
  have t13 : Sem.run Try.prog (convert 44 9 (.slice a12 l12 p12)) u13 = .ok (.string ⟨#[2]⟩) u13 := by
    have := conv8 ((unhide R12).later b13)
    rw [show strOfNums [2] = (⟨#[2]⟩ : ByteArray) from by rfl] at this
    exact this
  have HB : Hid (Below w.heap.size w u13) := hide (unhide Q11 u13 ((unhide X12).trans (b13.mono (unhide X12).size))).2.2.2.2
  clear b13 C12 c0 c1 c2 c3 c4 d0 d1 d2 d3 d4
  go_wp2_with fail
  go_ret
  exact ⟨by simp, unhide HB⟩

set_option maxRecDepth 100000 in
theorem lifted (os : Os) (started : os.Started) (H : Type) (enc : TypeId × Value → H) :
    ReturnsInHanded {} Try.checked os 8 .any (Rows.wireCodesSpec.pre6 enc Try.prog Try.f8 Rows.wireCodesRow.domain false) (Rows.wireCodesSpec.post enc Try.prog Try.f8 false true false false) := by
  refine returnsInHanded_of_change_sized (C := Try.checked) own started (by kernel_rfl) Try.func8
    (ChangeSpec.witness6 (enc := enc) (C := Try.checked) false ⟨#[], #[.agg #[.int .i64 0, .int .i64 0, .string ⟨#[]⟩, .slice none 0 0, .slice none 0 0], .slice none 0 0], []⟩ 8 (by kernel_rfl) (by kernel_rfl) (by kernel_rfl) (by kernel_rfl)) ?_
  intro W base args ds gs before hval0 hW _ hsz0 _
  have hsz : (DataW.weightsEach Try.prog (Try.f8.params.toList ++ Rows.wireCodesSpec.plain.varTypes Try.prog) (ds ++ gs)).all (· ≤ reachBytes) = true := hsz0
  clear hsz0
  have hval : ∀ (j : Nat) t v, Try.f8.params[j]? = some t → args[j]? = some v → Value.okWide Try.prog W .any base t v := hval0
  have hW' := hW
  obtain ⟨p, q, hA0, hV, rfl, hfz, hnd⟩ := hW
  have hA : DataW.TrodAll enc Try.prog W 0 (fun _ => true) true Try.f8.params.toList args.toList ds p := hA0
  rw [Try.params8] at hA hval hsz
  obtain ⟨v0, vs0, d0, ds0, p0, q0, hargs, rfl, rfl, h0, r0⟩ := trodAll_cons hA
  obtain ⟨v1, vs1, d1, ds1, p1, q1, hargs1, rfl, rfl, h1, r1⟩ := trodAll_cons r0
  obtain ⟨rfl, rfl, rfl⟩ := trodAll_nil r1
  subst hargs1
  obtain rfl : args = #[v0, v1] := by cases args; simp_all
  obtain ⟨rfl, rfl⟩ := trodVars_none hV
  have k0 := h0
  have lt0 : ∀ x ∈ p0, x.block < W.heap.size := by obtain ⟨m, hm⟩ := k0; exact DataW.trod_lt m _ _ _ hm
  have k1 := h1
  have lt1 : ∀ x ∈ p1, x.block < W.heap.size := by obtain ⟨m, hm⟩ := k1; exact DataW.trod_lt m _ _ _ hm
  obtain ⟨cs0, rfl, _⟩ := okWide_struct Try.underlying27 (hval 0 27 v0 rfl rfl)
  obtain ⟨vl0, hv0⟩ : ∃ v, IsV W W.heap.size v (.agg cs0) := by
    obtain ⟨fuel, hf⟩ := h0
    obtain ⟨v, hv⟩ := open_value fuel _ _ hf (reach_arg hsz (j := 0) rfl rfl)
    exact ⟨v, by simpa [Value.cells] using hv⟩
  obtain ⟨a1, len1, cap1, rfl⟩ := okWide_slice Try.underlying44 (hval 1 44 v1 rfl rfl)
  obtain ⟨z1, w1, hcap, _⟩ := open_row8 h1
  clear hA0 hval0
  refine (walk vl0 _ a1 len1 cap1 z1 W hv0 w1 hcap).mono fun e W' ⟨he, bel⟩ => ?_
  subst he
  exact ⟨_, rfl, _, _, _, [], _, [], hW', trodAll_mk1 (shut_bool Try.underlying4 _), (trodAll_cons_mk (Below.trod laidOut (by kernel_rfl) (of_decide_eq_true (by kernel_rfl)) k0 bel lt0) (trodAll_cons_mk (Below.trod laidOut (by kernel_rfl) (of_decide_eq_true (by kernel_rfl)) k1 bel lt1) trodAll_mk0)), rfl, bel.frame _, fun h => by cases h⟩

theorem over : Rows.wireCodesRow.holds Try.pinned (OpenSpec.ofChange Rows.wireCodesSpec) :=
  OpenClaim.holds_of_wide 8 Try.f8 rfl rfl rfl rfl rfl rfl rfl ⟨rfl, rfl, rfl, rfl, rfl⟩ rfl rfl rfl rfl rfl (by kernel_rfl) Try.func8 (by kernel_rfl)
    (of_decide_eq_true (by kernel_rfl)) (by unfold Func.isWrapper; first | (rw [if_pos (by decide +kernel)]; kernel_rfl) | (rw [if_neg (by decide +kernel)]; exact ⟨rfl, rfl⟩))
    (fun os started H enc _ => lifted os started H enc)

end Go.Proofs.Ytocklblkopmjgaa.wireCodes

namespace Go.Proofs.Ytocklblkopmjgaa
theorem wireCodes_holds : Rows.WireCodesSaid := wireCodes.over
#print axioms wireCodes_holds
end Go.Proofs.Ytocklblkopmjgaa
