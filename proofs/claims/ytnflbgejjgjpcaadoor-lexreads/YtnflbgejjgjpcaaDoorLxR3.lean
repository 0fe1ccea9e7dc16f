/-
  The walks of the document's quoted, Signs, sign (layer 16); conditions: a text of at most 8192 bytes.
-/
import Derived.Test.YtnflbgejjgjpcaaDoorLxR2
namespace Go.Proofs.YtnflbgejjgjpcaaDoor
open Go.RowKit
set_option linter.unusedVariables false
set_option linter.unusedSimpArgs false

def byV (l : List UInt8) : List Value := (l.map (fun c => (c.toNat : Int))).map (Value.int .u8)
theorem byV_one (l : List UInt8) (c : UInt8) : byV (l ++ [c]) = byV l ++ [.int .u8 (c.toNat : Int)] := by unfold byV; rw [List.map_append, List.map_append]; rfl

theorem nums_str (l : List UInt8) : strOfNums (l.map (fun c => (c.toNat : Int))) = bA l := by
  unfold strOfNums bA
  rw [List.map_map]
  congr 2
  have : ((fun n : Int => UInt8.ofNat n.toNat) ∘ fun c : UInt8 => (c.toNat : Int)) = id := by
    funext c
    simp
  rw [this, List.map_id]

/-- bytes of one's own, as a text -/
theorem conv_bytes {w : World} {B n : Nat} {v : Value} {l : List UInt8} (h : w.ownsRow B 5 1 v n (byV l)) (hn : l.length = n) :
    ∃ ao cap, v = .slice ao n cap ∧ Sem.run Tryd.prog (convert 44 9 (.slice ao n cap)) w = .ok (.string (bA l)) w := by
  cases n with
  | zero =>
    have hl : l = [] := List.eq_nil_of_length_eq_zero hn
    subst hl
    rcases h.2 with ⟨e, _⟩ | ⟨b, cap, cur, e, hbb, hcur, hrest⟩
    · exact ⟨none, 0, e, run_convert_bytes_nil (P := Tryd.prog) w 44 5 Tryd.underlying44 Tryd.underlying5 0 0 9 Tryd.underlying9⟩
    · refine ⟨some ⟨b, 0, none⟩, cap, e, ?_⟩
      have := run_convert_bytes_arg (P := Tryd.prog) w 44 5 Tryd.underlying44 Tryd.underlying5 b 0 0 cap [] rfl (fun j hj => by omega) 9 Tryd.underlying9
      rw [this]
      rfl
  | succ n =>
    obtain ⟨b, cap, rfl, hr⟩ := byte_conv (zs := l.map (fun c => (c.toNat : Int))) h
    refine ⟨_, cap, rfl, ?_⟩
    rw [hr, nums_str]

/-- what quoted answers, at a place -/
def quoV (a : Nat) : Option (List UInt8 × Nat) → Value
  | none => .tuple #[.string ⟨#[]⟩, .int .i64 0, .bool false]
  | some (bs, m) => .tuple #[.string (bA bs), .int .i64 ((a + m : Nat) : Int), .bool true]

set_option maxRecDepth 100000 in
set_option maxHeartbeats 2000000 in
theorem quotedD_any (s : ByteArray) (a : Nat) (ha : a < s.size) (hs : s.size ≤ 8192) (w : World) :
    Calls Tryd.prog 34 #[.string s, .int .i64 (a : Int)] w fun e w' => e = .returned (quoV a (bytV (s.data.toList.drop (a + 1)))) ∧ Below w.heap.size w w' := by
  obtain ⟨r, hr⟩ : ∃ r, s.data.toList.drop (a + 1) = r := ⟨_, rfl⟩
  have hrl : r.length = s.size - (a + 1) := by rw [← hr, List.length_drop, len_list]
  obtain ⟨R, hR⟩ : ∃ R, quoV a (bytV r) = R := ⟨_, rfl⟩
  have HR : Hid (∀ x, bytV r = x → R = quoV a x) := hide (fun x hx => by rw [← hR, hx])
  rw [hr, hR]
  have hs2 : (s.size : Int) ≤ 8192 := by omega
  have HRR := hide (And.intro hr hrl)
  obtain ⟨it, hi, hz0, hzs, hzb⟩ := info_parts infoBc
  have HI := hide (And.intro hi (And.intro hz0 (And.intro hzs hzb)))
  obtain ⟨B, hB⟩ : ∃ B, w.heap.size = B := ⟨_, rfl⟩
  have HBB := hide hB
  rw [hB]
  clear hR hr hrl hi hz0 hzs hzb hB
  go_enter Tryd.func34, Tryd.ntmps34
  go_wp2_with fail
  go_loopw [1, 7] (fun x v wr => ∃ (q f : Nat) (out : List UInt8), x = .int .i64 (q : Int) ∧ a + 1 ≤ q ∧ q ≤ s.size ∧ Hid (out.length ≤ 2048 ∧ (s.data.toList.drop q).length < f ∧ pcs (r.length + 1) r = preP out (q - (a + 1)) (pcs f (s.data.toList.drop q)) ∧ wr.ownsRow B 5 1 v out.length (byV out) ∧ Below B w wr)) (fun x _ _ => s.size - (intOf x).toNat)
  case atStart => exact ⟨a + 1, r.length + 1, [], by first | rfl | go_num, Nat.le_refl _, ha, hide ⟨by simp, by rw [(unhide HRR).1]; omega, by
      rw [(unhide HRR).1, Nat.sub_self]
      cases pcs (r.length + 1) r with
      | none => rfl
      | some y => simp [preP], ⟨rfl, Or.inl ⟨rfl, rfl⟩⟩, Below.refl _ _⟩⟩
  case round =>
    obtain ⟨q, f, out, rfl, hq1, hqs, HX⟩ := hrel
    obtain ⟨q8, p8, rfl, hsl⟩ := slice_form (unhide HX).2.2.2.1
    clear hsl
    have hBw : B ≤ wr.heap.size := by
      have h1 := (unhide HX).2.2.2.2.size
      have h2 := unhide HBB
      omega
    obtain ⟨N, hN⟩ : ∃ N, out.length = N := ⟨_, rfl⟩
    have HNN := hide hN
    rw [hN] at HX ⊢
    by_cases hlt : q < s.size
    · have j1 : (q : Int) < (s.size : Int) := by omega
      have hdq := drop_at s q hlt
      obtain ⟨c, hc⟩ : ∃ c, s[q]'hlt = c := ⟨_, rfl⟩
      obtain ⟨z, hz⟩ : ∃ z : Nat, c.toNat = z := ⟨_, rfl⟩
      have hzi : ((s[q]'hlt).toNat : Int) = (z : Int) := by rw [hc, hz]
      rw [hc] at hdq
      obtain ⟨f', rfl⟩ : ∃ f', f = f' + 1 := ⟨f - 1, by have := (unhide HX).2.1; omega⟩
      have HC := hide (And.intro hz hdq)
      have nge : ¬ (s.size : Int) ≤ (q : Int) := by omega
      by_cases h34 : z = 34
      · have k1 : ((z : Int) == 34) = true := beq_iff_eq.2 (by omega)
        have k2 : ((z : Int) != 34) = false := by simp [show (z : Int) = 34 by omega]
        have hpe : pcs (r.length + 1) r = some (out, q - (a + 1) + 1) := by
          rw [(unhide HX).2.2.1, hdq, pcs_end f' c _ (by omega)]
          simp [preP]
        by_cases hfull : 2047 < N
        · have n1 : (2047 : Int) < (N : Int) := by omega
          have HE : Hid (R = .tuple #[.string ⟨#[]⟩, .int .i64 0, .bool false]) := hide (by
            have h2 : bytV r = none := by
              unfold bytV
              rw [hpe]
              simp only [bytC]
              rw [if_neg (by rw [hN]; omega)]
            rw [unhide HR _ h2]
            rfl)
          have HBF := hide (unhide HX).2.2.2.2
          clear hdq hc hz h34 hpe hfull hN HX
          go_wp2_with fail
          go_ret3
          exact ⟨by rw [unhide HE]; rfl, unhide HBF⟩
        · have n1 : ¬ (2047 : Int) < (N : Int) := by omega
          obtain ⟨ao, cap, e0, hcv⟩ := conv_bytes (unhide HX).2.2.2.1 hN
          cases e0
          have HE : Hid (R = .tuple #[.string (bA out), .int .i64 ((q : Int) + 1), .bool true]) := hide (by
            have h2 : bytV r = some (out, q - (a + 1) + 1 + 1) := by
              unfold bytV
              rw [hpe]
              simp only [bytC]
              rw [if_pos (by rw [hN]; omega)]
            rw [unhide HR _ h2]
            show Value.tuple #[.string (bA out), .int .i64 ((a + (q - (a + 1) + 1 + 1) : Nat) : Int), .bool true] = _
            rw [show ((a + (q - (a + 1) + 1 + 1) : Nat) : Int) = (q : Int) + 1 by omega])
          have HBF := hide (unhide HX).2.2.2.2
          have hq8 : (q : Int) + 1 ≤ 8193 := by omega
          clear hdq hc hz h34 hpe hfull hN HX
          go_wp2_with fail
          go_ret3
          exact ⟨by rw [unhide HE]; rfl, unhide HBF⟩
      · have k1 : ((z : Int) == 34) = false := beq_eq_false_iff_ne.2 (by omega)
        have k2 : ((z : Int) != 34) = true := by simp; omega
        have k3 : ¬ (z : Int) = 34 := by omega
        by_cases hfull : ¬ (N < 2048)
        · have n1 : ¬ (N : Int) < 2048 := by omega
          have n2 : (2047 : Int) < (N : Int) := by omega
          have HE : Hid (R = .tuple #[.string ⟨#[]⟩, .int .i64 0, .bool false]) := hide (by
            have h2 : bytV r = none := by
              unfold bytV
              rw [(unhide HX).2.2.1]
              exact bytC_long _ (by omega)
            rw [unhide HR _ h2]
            rfl)
          have HBF := hide (unhide HX).2.2.2.2
          clear hdq hc hz h34 hfull hN HX
          go_wp2_with fail
          go_ret3
          exact ⟨by rw [unhide HE]; rfl, unhide HBF⟩
        replace hfull : N < 2048 := Decidable.of_not_not hfull
        have n1 : (N : Int) < 2048 := by omega
        have CP := hide (pieceD_any s q hlt (by rw [hc, hz]; exact h34) hs wr)
        cases hp : pcL (s.data.toList.drop q) with
        | none =>
          rw [hp] at CP
          have CP2 : Hid (Calls Tryd.prog 47 #[.string s, .int .i64 (q : Int)] wr fun e w' => e = .returned (.tuple #[.int .u8 0, .int .i64 0]) ∧ w' = wr) := CP
          have HE : Hid (R = .tuple #[.string ⟨#[]⟩, .int .i64 0, .bool false]) := hide (by
            have h1 := (unhide HX).2.2.1
            rw [(unhide HC).2] at h1 hp
            rw [pcs_bad f' c _ (by have := (unhide HC).1; omega) hp] at h1
            have h2 : bytV r = none := by unfold bytV; rw [h1]; rfl
            rw [unhide HR _ h2]
            rfl)
          have HBF := hide (unhide HX).2.2.2.2
          clear hdq hc hz h34 hfull hN HX hp CP
          go_wp2_with fail
          refine (unhide CP2).mono ?_
          rintro e uA ⟨rfl, rfl⟩
          go_wp2_with fail
          go_ret3
          exact ⟨by rw [unhide HE]; rfl, unhide HBF⟩
        | some y =>
          obtain ⟨b, n⟩ := y
          have hnp := pcL_pos hp
          rw [List.length_drop, len_list] at hnp
          rw [hp, pcV_some] at CP
          obtain ⟨y, hy⟩ : ∃ y : Int, (b.toNat : Int) = y := ⟨_, rfl⟩
          rw [hy] at CP
          have m1 : ((n : Int) == 0) = false := beq_eq_false_iff_ne.2 (by omega)
          have m2 : ¬ (n : Int) = 0 := by omega
          have HN := hide hnp
          have HY := hide hy
          have HNX : Hid (pcs (r.length + 1) r = preP (out ++ [b]) (q + n - (a + 1)) (pcs f' (s.data.toList.drop (q + n)))) := hide (by
            have h1 := (unhide HX).2.2.1
            rw [(unhide HC).2] at h1 hp
            rw [pcs_next f' c _ b n (by have := (unhide HC).1; omega) hp, preP_add, ← (unhide HC).2, List.drop_drop] at h1
            rw [h1]
            congr 1
            omega)
          have hqn : (q : Int) + (n : Int) ≤ (s.size : Int) := by omega
          have HOW := hide (And.intro (unhide HX).2.2.2.1 (unhide HX).2.2.2.2)
          have HF2 := hide (unhide HX).2.1
          have HNF := hide hfull
          clear hdq hc hz h34 hfull hN hp HX hnp hy
          go_wp2_with fail
          refine (unhide CP).mono ?_
          rintro e uA ⟨rfl, rfl⟩
          have tokB : True := trivial
          go_upto_region 8 with (first | (have _t := tokB; at_builtin; refine wpl_oneG rfl (.tmp 35) (.tmp 37) 44 5 it (.int .u8 0) 1 1 Tryd.underlying44 (unhide HI).1 (unhide HI).2.1 (unhide HI).2.2.1 (unhide HI).2.2.2 rfl (by omega) rfl B N (.slice q8 N p8) (byV out) [.int .u8 y] rfl (by simp [Value.oneCell']) rfl (unhide HOW).1 rfl (by have := unhide HNF; unfold maxLen; omega) (by have := unhide HNF; omega) hBw ?_; intro v8 w8 H8; clear tokB; obtain ⟨q9, p9, rfl, hsl⟩ := slice_form (unhide H8).1; clear hsl))
          have HU8 : Hid (Below B w w8 ∧ w8.ownsRow B 5 1 (.slice q9 (N + 1) p9) (N + 1) (byV (out ++ [b]))) := hide (by
            obtain ⟨h1, h2, _⟩ := unhide H8
            rw [byV_one, unhide HY]
            exact ⟨(unhide HOW).2.trans ((Below.refl _ _).grown h2 hBw (fun k e => ((unhide HOW).1.lt k e).1)), h1⟩)
          clear H8
          go_wp2_with fail
          go_roundw
          case rel =>
            refine ⟨q + n, f', out ++ [b], by go_num, by omega, by have := unhide HN; omega, hide ⟨by rw [List.length_append, unhide HNN]; have := unhide HNF; simp; omega, ?_, unhide HNX, by rw [List.length_append, unhide HNN]; exact (unhide HU8).2, (unhide HU8).1⟩⟩
            have h1 := unhide HF2
            have h2 := unhide HN
            rw [List.length_drop, len_list] at h1 ⊢
            omega
          case measure => have h2 := unhide HN; simp [intOf]; omega
    · have j1 : ¬ (q : Int) < (s.size : Int) := by omega
      have nge : (s.size : Int) ≤ (q : Int) := by omega
      have HE : Hid (R = .tuple #[.string ⟨#[]⟩, .int .i64 0, .bool false]) := hide (by
        have h1 := (unhide HX).2.2.1
        rw [List.drop_of_length_le (by rw [len_list]; omega)] at h1
        have h2 : bytV r = none := by
          unfold bytV
          rw [h1]
          cases f <;> rfl
        rw [unhide HR _ h2]
        rfl)
      have HBF := hide (unhide HX).2.2.2.2
      clear HX hN
      go_wp2_with fail
      go_ret3
      exact ⟨by rw [unhide HE]; rfl, unhide HBF⟩

def sgC : Array Value := #[.string ⟨#[61, 61]⟩, .string ⟨#[33, 61]⟩, .string ⟨#[60, 61]⟩, .string ⟨#[62, 61]⟩, .string ⟨#[38, 38]⟩, .string ⟨#[124, 124]⟩, .string ⟨#[40]⟩, .string ⟨#[41]⟩, .string ⟨#[123]⟩, .string ⟨#[125]⟩, .string ⟨#[91]⟩, .string ⟨#[93]⟩, .string ⟨#[44]⟩, .string ⟨#[59]⟩, .string ⟨#[58]⟩, .string ⟨#[46]⟩, .string ⟨#[61]⟩, .string ⟨#[60]⟩, .string ⟨#[62]⟩, .string ⟨#[43]⟩, .string ⟨#[45]⟩, .string ⟨#[42]⟩, .string ⟨#[47]⟩, .string ⟨#[37]⟩, .string ⟨#[33]⟩]
set_option maxRecDepth 100000 in
set_option maxHeartbeats 2000000 in
theorem signs_any (w : World) :
    Calls Tryd.prog 48 #[] w fun e w' => e = .returned (.slice (some ⟨w.heap.size, 0, none⟩) 25 25) ∧ RowT w' w.heap.size sgL ∧ Below w.heap.size w w' := by
  have HX : Hid (RowT (w.alloc (.cells sgC 9)) w.heap.size sgL ∧ Below w.heap.size w (w.alloc (.cells sgC 9))) := hide ⟨rowT_alloc w sgL sgC 9 rfl, (Below.refl _ _).alloc (Nat.le_refl _) _⟩
  unfold sgC at HX
  go_enter Tryd.func48, Tryd.ntmps48
  go_wp2_with fail
  go_ret
  exact ⟨rfl, unhide HX⟩

/-- does a sign stand at a text's head? -/
def sgAt (l g : List UInt8) : Bool := decide (g.length ≤ l.length) && (l.take g.length == g)

theorem sg_order : ∀ i : Fin 25, ∀ k : Fin 25, (sgL[i.val]'(by have := i.isLt; show i.val < 25; omega)).length = 1 → (sgL[k.val]'(by have := k.isLt; show k.val < 25; omega)).length = 2 → k.val < i.val := by decide +kernel
theorem sg_lens : ∀ i : Fin 25, (sgL[i.val]'(by have := i.isLt; show i.val < 25; omega)).length = 1 ∨ (sgL[i.val]'(by have := i.isLt; show i.val < 25; omega)).length = 2 := by decide +kernel

theorem sg_len {i : Nat} {g : List UInt8} (h : sgL[i]? = some g) : i < 25 ∧ (g.length = 1 ∨ g.length = 2) := by
  obtain ⟨hi, rfl⟩ := List.getElem?_eq_some_iff.1 h
  exact ⟨hi, sg_lens ⟨i, hi⟩⟩

theorem sg_first {l : List UInt8} {i : Nat} {g : List UInt8} (h : sgL[i]? = some g) (hm : sgAt l g = true) (hn : ∀ j x, j < i → sgL[j]? = some x → sgAt l x = false) : sgN l = g.length ∧ l.take (sgN l) = g := by
  obtain ⟨hi, hg⟩ := sg_len h
  unfold sgAt at hm
  rw [Bool.and_eq_true, decide_eq_true_eq, beq_iff_eq] at hm
  have hgB : sgB g = true := List.contains_iff_mem.2 (List.mem_of_getElem? h)
  rcases hg with h1 | h2
  · have hno : ¬ (2 ≤ l.length ∧ sgB (l.take 2) = true) := by
      rintro ⟨q1, q2⟩
      obtain ⟨k, hk⟩ := List.mem_iff_getElem?.1 (List.contains_iff_mem.1 q2)
      have hkl := (sg_len hk).1
      have hlt : (l.take 2).length = 2 := by rw [List.length_take]; omega
      have hki : k < i := by
        obtain ⟨_, e1⟩ := List.getElem?_eq_some_iff.1 h
        obtain ⟨_, e2⟩ := List.getElem?_eq_some_iff.1 hk
        exact sg_order ⟨i, hi⟩ ⟨k, hkl⟩ (by rw [e1]; exact h1) (by rw [e2]; exact hlt)
      have := hn k _ hki hk
      unfold sgAt at this
      rw [hlt, decide_eq_true q1] at this
      simp at this
    have e : sgN l = 1 := by
      unfold sgN
      rw [if_neg hno, if_pos (by rw [← h1, hm.2]; exact hgB)]
    rw [e, h1]
    exact ⟨rfl, by rw [← h1]; exact hm.2⟩
  · have e : sgN l = 2 := by
      unfold sgN
      rw [if_pos ⟨by omega, by rw [← h2, hm.2]; exact hgB⟩]
    rw [e, h2]
    exact ⟨rfl, by rw [← h2]; exact hm.2⟩

theorem sg_none {l : List UInt8} (hl : 1 ≤ l.length) (hn : ∀ j x, j < 25 → sgL[j]? = some x → sgAt l x = false) : sgN l = 0 := by
  have key : ∀ m, m ≤ l.length → sgB (l.take m) = true → False := fun m hm hb => by
    obtain ⟨k, hk⟩ := List.mem_iff_getElem?.1 (List.contains_iff_mem.1 hb)
    have hkl := (sg_len hk).1
    have hlt : (l.take m).length = m := by rw [List.length_take]; omega
    have := hn k _ hkl hk
    unfold sgAt at this
    rw [hlt, decide_eq_true hm] at this
    simp at this
  unfold sgN
  rw [if_neg (fun h => key 2 h.1 h.2), if_neg (fun h => key 1 hl h)]

set_option maxRecDepth 100000 in
set_option maxHeartbeats 2000000 in
theorem signD_any (s : ByteArray) (a : Nat) (ha : a < s.size) (hs : s.size ≤ 8192) (w : World) :
    Calls Tryd.prog 35 #[.string s, .int .i64 (a : Int)] w fun e w' => e = .returned (.string (bA ((s.data.toList.drop a).take (sgN (s.data.toList.drop a))))) ∧ Below w.heap.size w w' := by
  obtain ⟨l, hl⟩ : ∃ l, s.data.toList.drop a = l := ⟨_, rfl⟩
  have hll : l.length = s.size - a := by rw [← hl, List.length_drop, len_list]
  obtain ⟨R, hR⟩ : ∃ R, bA (l.take (sgN l)) = R := ⟨_, rfl⟩
  rw [hl, hR]
  have HR := hide hR
  have hs2 : (s.size : Int) ≤ 8192 := by omega
  have HL := hide (And.intro hl hll)
  have CS := hide (signs_any w)
  obtain ⟨g, hg⟩ : ∃ g, w.heap.size = g := ⟨_, rfl⟩
  rw [hg] at CS ⊢
  have HG := hide hg
  clear hl hll hR hg
  go_enter Tryd.func35, Tryd.ntmps35
  go_wp2_with fail
  refine (unhide CS).mono ?_
  rintro e uA ⟨rfl, hrow, b1⟩
  have HROW := hide hrow
  have B1 := hide b1
  clear hrow b1 CS
  go_wp2_with fail
  go_loopw [6] (fun x wr => ∃ i : Nat, x = .int .i64 (i : Int) ∧ i ≤ 25 ∧ Hid ((∀ j y, j < i → sgL[j]? = some y → sgAt l y = false) ∧ ∃ q, wr = uA.drewN q)) (fun x _ => 25 - (intOf x).toNat)
  case atStart => exact ⟨0, rfl, by omega, hide ⟨(fun j y h => by omega), 0, rfl⟩⟩
  case round =>
    obtain ⟨i, rfl, hi, HX⟩ := hrel
    obtain ⟨q, hq⟩ := (unhide HX).2
    have HQ := hide hq
    have hbl : Below uA.heap.size uA wr := by rw [hq]; exact below_drewN' q uA
    by_cases hlt : i < 25
    · have j1 : (i : Int) < 25 := by omega
      obtain ⟨y, hy⟩ : ∃ y, sgL[i]? = some y := ⟨_, List.getElem?_eq_getElem hlt⟩
      have hcell := cell_later hbl ((unhide HROW).2 i y hy)
      have hgl : g < wr.heap.size := Nat.lt_of_lt_of_le (unhide HROW).1 hbl.size
      have hyl := (sg_len hy).2
      obtain ⟨m, hm⟩ : ∃ m, y.length = m := ⟨_, rfl⟩
      obtain ⟨V, hV⟩ : ∃ V, bA y = V := ⟨_, rfl⟩
      have hVs : V.size = m := by rw [← hV, bA_size, hm]
      have hVi : (V.size : Int) = (m : Int) := by rw [hVs]
      rw [hV] at hcell
      have r1 : (⟨g, 0, none⟩ : Addr).add i = ⟨g, i, none⟩ := by unfold Addr.add; split <;> simp_all
      have r2 : i * 1 = i := Nat.mul_one i
      have m1 : (m : Int) ≤ 2 ∧ 1 ≤ (m : Int) := by omega
      have hw1 : IntKind.i64.wrap ((s.size : Int) - (a : Int)) = (s.size : Int) - (a : Int) := by rw [IntKind.wrap_i64]; omega
      have hw2 : IntKind.i64.wrap ((a : Int) + (m : Int)) = (a : Int) + (m : Int) := by rw [IntKind.wrap_i64]; omega
      have HY := hide (And.intro hy (And.intro hm hV))
      have HNX : Hid (∀ z, ∃ q', wr.drewN z = uA.drewN q') := hide (fun z => ⟨q + z, by rw [unhide HQ]; unfold World.drewN; simp [Nat.add_assoc]⟩)
      have HBZ : Hid (∀ z, Below g w (wr.drewN z)) := hide (fun z => by
        have h1 := unhide B1
        have h2 : Below uA.heap.size uA (wr.drewN z) := hbl.trans ((below_drewN' z wr).mono hbl.size)
        exact h1.trans (h2.mono (Nat.le_trans (by rw [← unhide HG]; exact Nat.le_refl _) h1.size)))
      have HLT := hide hlt
      by_cases hfit : ¬ (m ≤ s.size - a)
      · have k1 : ¬ (m : Int) ≤ (s.size : Int) - (a : Int) := by omega
        have HN : Hid (∀ j x, j < i + 1 → sgL[j]? = some x → sgAt l x = false) := hide (fun j x hj hx => by
          rcases Nat.lt_or_ge j i with h | h
          · exact (unhide HX).1 j x h hx
          · obtain rfl : j = i := by omega
            rw [hy] at hx
            cases hx
            unfold sgAt
            rw [decide_eq_false (by rw [hm, (unhide HL).2]; omega)]
            rfl)
        clear hy hm hV hq hbl hyl hVs hfit
        go_upto_region 6 with fail
        go_quiet (fail)
        go_wp2_with fail
        go_roundw
        case rel => exact ⟨i + 1, by go_num, unhide HLT, hide ⟨unhide HN, unhide HNX _⟩⟩
        case measure => have := unhide HLT; simp [intOf]; omega
      replace hfit : m ≤ s.size - a := Decidable.of_not_not hfit
      have k1 : (m : Int) ≤ (s.size : Int) - (a : Int) := by omega
      have k2 : (a : Int) + (m : Int) ≤ (s.size : Int) := by omega
      have k3 : (a : Int) ≤ (a : Int) + (m : Int) := by omega
      obtain ⟨b, hb⟩ : ∃ b, a + m = b := ⟨_, rfl⟩
      have hbi : (a : Int) + (m : Int) = (b : Int) := by omega
      have kb1 : (b : Int) ≤ (s.size : Int) := by omega
      have kb2 : (a : Int) ≤ (b : Int) := by omega
      have hext : ((s.extract a b).toList == V.toList) = (l.take m == y) := by
        rw [ByteArray.toList_eq, ext_data, ← hV, bA_list, List.drop_take, (unhide HL).1, show b - a = m by omega]
      cases hcmp : (l.take m == y) with
      | true =>
        rw [hcmp] at hext
        have HE : Hid (V = R) := hide (by
          have hat : sgAt l y = true := by
            unfold sgAt
            rw [hm, decide_eq_true (by rw [(unhide HL).2]; exact hfit), hcmp]
            rfl
          rw [← unhide HR, (sg_first hy hat (unhide HX).1).2, hV])
        clear hy hm hV hq hbl hyl hVs hfit hb hcmp
        go_upto_region 6 with fail
        go_quiet (fail)
        go_wp2_with fail
        go_ret
        exact ⟨by rw [← unhide HE]; rfl, unhide HBZ _⟩
      | false =>
        rw [hcmp] at hext
        have HN : Hid (∀ j x, j < i + 1 → sgL[j]? = some x → sgAt l x = false) := hide (fun j x hj hx => by
          rcases Nat.lt_or_ge j i with h | h
          · exact (unhide HX).1 j x h hx
          · obtain rfl : j = i := by omega
            rw [hy] at hx
            cases hx
            unfold sgAt
            rw [hm, hcmp]
            simp)
        clear hy hm hV hq hbl hyl hVs hfit hb hcmp
        go_upto_region 6 with fail
        go_quiet (fail)
        go_wp2_with fail
        go_roundw
        case rel => exact ⟨i + 1, by go_num, unhide HLT, hide ⟨unhide HN, unhide HNX _⟩⟩
        case measure => have := unhide HLT; simp [intOf]; omega
    · have j1 : ¬ (i : Int) < 25 := by omega
      have HE : Hid (R = ⟨#[]⟩ ∧ Below g w wr) := hide (by
        have h1 : sgN l = 0 := sg_none (by rw [(unhide HL).2]; omega) (fun j x hj hx => (unhide HX).1 j x (by omega) hx)
        refine ⟨by rw [← unhide HR, h1]; rfl, ?_⟩
        have h2 := unhide B1
        exact h2.trans (hbl.mono (Nat.le_trans (by rw [← unhide HG]; exact Nat.le_refl _) h2.size)))
      clear hq hbl HX
      go_wp2_with fail
      go_ret
      exact ⟨by rw [(unhide HE).1]; rfl, (unhide HE).2⟩
end Go.Proofs.YtnflbgejjgjpcaaDoor
