/-
  A right value's bytes are read back wherever they stand; no conditions.
  The walk of Weight; no conditions but the form's own reach.
-/
import Derived.Test.YtjkladljhbcelaaWRdS
import Derived.Test.YtjkladljhbcelaaWTake
import Derived.Test.YtjkladljhbcelaaWPut
import Derived.Test.YtjkladljhbcelaaVCodeR
namespace Go.Proofs.Ytjkladljhbcelaa
open Go.RowKit

theorem uint_at {zs rest : List Int} {a : Nat} {n : Int} (ha : a ≤ zs.length) (h0 : 0 ≤ n) (h1 : n ≤ 18446744073709551615) (h : zs.drop a = encF 9 n ++ rest) :
    uintAt zs a = (n, ((a + (encF 9 n).length : Nat) : Int), 0) := by
  have hb := uint_back (zs.take a) rest n h0 h1
  rw [List.append_assoc, ← h, List.take_append_drop, List.length_take, Nat.min_eq_left ha] at hb
  exact hb

theorem drop_more {zs x rest : List Int} {a : Nat} (h : zs.drop a = x ++ rest) : zs.drop (a + x.length) = rest := by
  rw [← List.drop_drop, h, List.drop_left]

theorem drop_le {zs x rest : List Int} {a : Nat} (h : zs.drop a = x ++ rest) (hx : 0 < x.length) : a + x.length ≤ zs.length := by
  have h1 := congrArg List.length h
  rw [List.length_drop, List.length_append] at h1
  omega

theorem text_at {zs rest : List Int} {a : Nat} {s : ByteArray} {most : Int} (hs : (s.size : Int) ≤ most) (hb : s.size ≤ 140737488351232) (h : zs.drop a = tx s ++ rest) :
    textOfU zs most (uintAt zs a) = (s, ((a + (tx s).length : Nat) : Int), 0) := by
  have hp := tx_pos s
  have hle := drop_le h hp
  have hlen : (tx s).length = (encF 9 (s.size : Int)).length + s.size := by unfold tx; rw [List.length_append, nums_len]
  have hd : zs.drop a = encF 9 (s.size : Int) ++ (nums s ++ rest) := by rw [h]; unfold tx; rw [List.append_assoc]
  have hu := uint_at (by omega) (by omega) (by omega) hd
  have hd2 := drop_more hd
  rw [hu]
  unfold textOfU
  rw [if_neg (by simp), if_neg (by omega), if_neg (by dsimp only; omega)]
  simp only [Int.toNat_natCast]
  rw [hd2, List.take_left' (nums_len s), nums_str]
  simp only [Prod.mk.injEq, true_and, and_true]
  omega

def CmpAt (zs : List Int) (d : Nat) (f : Nat → Nat → Except (Int × Int) (Vl × Nat × Nat)) : Prop := ∀ a t v rest, zs.drop a = wenc v ++ rest → okB d v = true → fitB v = true → t + wt v ≤ 2048 → f a t = .ok (v, a + (wenc v).length, t + wt v)

theorem arr_back {zs : List Int} {d : Nat} {f : Nat → Nat → Except (Int × Int) (Vl × Nat × Nat)} (hf : CmpAt zs d f) : ∀ (l acc : List Vl) (a t : Nat) (rest : List Int), zs.drop a = wencL false l [] ++ rest → okL d l = true → fitL l = true → t + wtL l ≤ 2048 →
    rdArr f l.length acc a t = .ok (acc ++ l, a + (wencL false l []).length, t + wtL l)
  | [], acc, a, t, rest, h, ho, hi, ht => by simp [rdArr, wencL_nil, wtL_nil]
  | v :: l, acc, a, t, rest, h, ho, hi, ht => by
    rw [wencL_cons] at h ⊢
    rw [okL_cons, Bool.and_eq_true] at ho
    rw [fitL_cons, Bool.and_eq_true] at hi
    rw [wtL_cons] at ht ⊢
    simp only [Bool.false_eq_true, if_false, List.nil_append, List.tail_nil] at h ⊢
    rw [List.append_assoc] at h
    have h1 := hf a t v _ h ho.1 hi.1 (by omega)
    have h2 := arr_back hf l (acc ++ [v]) (a + (wenc v).length) (t + wt v) rest (drop_more h) ho.2 hi.2 (by omega)
    simp only [List.length_cons, rdArr, h1, h2, List.append_assoc, List.singleton_append, List.length_append]
    simp only [Except.ok.injEq, Prod.mk.injEq, true_and]
    omega

theorem rec_back {zs : List Int} {d : Nat} {f : Nat → Nat → Except (Int × Int) (Vl × Nat × Nat)} (hf : CmpAt zs d f) : ∀ (l acc : List Vl) (ks ak : List ByteArray) (a t : Nat) (rest : List Int), ks.length = l.length → risingFrom ak.getLast? ks = true → zs.drop a = wencL true l ks ++ rest → okL d l = true → fitL l = true → t + wtL l + keysW ks ≤ 2048 →
    rdRec zs f l.length acc ak a t = .ok (acc ++ l, ak ++ ks, a + (wencL true l ks).length, t + wtL l + keysW ks)
  | [], acc, [], ak, a, t, rest, hk, hr, h, ho, hi, ht => by simp [rdRec, wencL_nil, wtL_nil, keysW]
  | [], acc, _ :: _, ak, a, t, rest, hk, hr, h, ho, hi, ht => by simp at hk
  | v :: l, acc, [], ak, a, t, rest, hk, hr, h, ho, hi, ht => by simp at hk
  | v :: l, acc, s :: ks, ak, a, t, rest, hk, hr, h, ho, hi, ht => by
    rw [wencL_cons] at h ⊢
    rw [okL_cons, Bool.and_eq_true] at ho
    rw [fitL_cons, Bool.and_eq_true] at hi
    rw [wtL_cons] at ht ⊢
    simp only [keysW] at ht ⊢
    simp only [risingFrom, Bool.and_eq_true, decide_eq_true_eq] at hr
    simp only [if_true, keyAt, List.tail_cons] at h ⊢
    rw [List.append_assoc, List.append_assoc] at h
    have hx := text_at (most := 32) (by omega) (by omega) h
    have hkey : rdKey zs ak.getLast? a t = .ok (s, a + (tx s).length, t + (1 + s.size)) := by
      unfold rdKey
      rw [hx]
      have hb : notBehind s ak.getLast? = false := by
        cases hg : ak.getLast? with
        | none => rfl
        | some p =>
          have h2 := hr.1.2
          rw [hg] at h2
          simp only at h2
          simp only [notBehind]
          rw [bl_not] at h2
          simpa using h2
      simp only [hb]
      rw [if_neg (by simp), if_neg (by simp), if_neg (by omega), Int.toNat_natCast]
    have h1 := hf (a + (tx s).length) (t + (1 + s.size)) v _ (drop_more h) ho.1 hi.1 (by omega)
    have h2 := rec_back hf l (acc ++ [v]) ks (ak ++ [s]) (a + (tx s).length + (wenc v).length) (t + (1 + s.size) + wt v) rest (by simpa using hk) (by simpa using hr.2) (drop_more (drop_more h)) ho.2 hi.2 (by omega)
    simp only [List.length_cons, rdRec, hkey, h1, h2, List.append_assoc, List.singleton_append, List.length_append]
    simp only [Except.ok.injEq, Prod.mk.injEq, true_and]
    omega

theorem head_at {zs r : List Int} {a : Nat} {c : Int} (h : zs.drop a = c :: r) : zs[a]? = some c ∧ zs.drop (a + 1) = r ∧ a < zs.length := by
  have hl : a < zs.length := by
    have h1 := congrArg List.length h
    rw [List.length_drop, List.length_cons] at h1
    omega
  rw [List.drop_eq_getElem_cons hl] at h
  simp only [List.cons.injEq] at h
  exact ⟨by rw [List.getElem?_eq_getElem hl, h.1], h.2, hl⟩

theorem len_wtL : ∀ l : List Vl, l.length ≤ wtL l
  | [] => by simp [wtL_nil]
  | x :: l => by
    have h1 := len_wtL l
    have h2 := wt_pos x
    rw [wtL_cons, List.length_cons]
    omega

theorem len_keysW : ∀ ks : List ByteArray, ks.length ≤ keysW ks
  | [] => by simp
  | s :: ks => by
    have h1 := len_keysW ks
    simp only [keysW, List.length_cons]
    omega

theorem cnt_back {zs rest : List Int} {q a t k n : Nat} (ha : a ≤ zs.length) (hk : 1 ≤ k) (hn : n * k + t ≤ 2048) (h : zs.drop a = encF 9 (n : Int) ++ rest) : rdCnt zs q a t k = .ok (n, a + (encF 9 (n : Int)).length) := by
  have hle : n ≤ 2048 := by
    have : n * 1 ≤ n * k := Nat.mul_le_mul_left n hk
    omega
  unfold rdCnt
  rw [uint_at ha (by omega) (by omega) h]
  rw [if_neg (by simp), if_neg ?_]
  · simp only [Int.toNat_natCast]
  · rw [Int.tdiv_eq_ediv_of_nonneg (by omega)]
    have h2 : (n : Int) ≤ (2048 - (t : Int)) / k := (Int.le_ediv_iff_mul_le (by omega)).2 (by
      have h4 : ((n * k : Nat) : Int) = (n : Int) * k := Int.natCast_mul n k
      omega)
    dsimp only
    omega

/-- a right value's bytes are read back -/
theorem rdV_back {zs : List Int} : ∀ d, CmpAt zs d (rdV zs d)
  | 0 => by
    intro a t v rest _ ho
    simp [okB] at ho
  | d + 1 => by
    intro a t v rest h ho hi ht
    cases v with
    | mk k n s l ks =>
      simp only [okB, Bool.and_eq_true] at ho
      simp only [fitB, Bool.and_eq_true, decide_eq_true_eq] at hi
      have hwt : wt (.mk k n s l ks) = 1 + s.size + keysW ks + wtL l := rfl
      rw [hwt] at ht ⊢
      rcases form_zero ho.1 with ⟨rfl, rfl, rfl, hl, rfl⟩ | ⟨rfl, hn, rfl, hl, rfl⟩ | ⟨rfl, rfl, hl, rfl⟩ | ⟨rfl, rfl, hl, rfl⟩ | ⟨rfl, rfl, rfl, rfl⟩ | ⟨rfl, rfl, rfl, hl, hr⟩
      · obtain rfl := List.eq_nil_of_length_eq_zero hl
        rw [wenc0] at h ⊢
        obtain ⟨hc, _, _⟩ := head_at h
        simp only [rdV, hc]
        rw [if_neg (by omega), if_neg (by omega)]
        simp [e0s, keysW, wtL_nil]
      · obtain rfl := List.eq_nil_of_length_eq_zero hl
        rw [wenc1] at h ⊢
        obtain ⟨hc, _, _⟩ := head_at h
        simp only [rdV, hc]
        rcases hn with rfl | rfl
        · rw [if_neg (by omega), if_neg (by omega)]
          simp [e0s, keysW, wtL_nil]
        · rw [if_neg (by omega), if_neg (by omega)]
          simp [e0s, keysW, wtL_nil]
      · obtain rfl := List.eq_nil_of_length_eq_zero hl
        rw [wenc2] at h ⊢
        obtain ⟨hc, hd, hlt⟩ := head_at (show zs.drop a = 3 :: (encF 9 (foldI n) ++ rest) by rw [h]; rfl)
        have fr := foldI_range hi.1.1.1.1
        have hu := uint_at (a := a + 1) (by omega) fr.1 fr.2 hd
        simp only [rdV, hc]
        rw [if_neg (by omega), if_neg (by omega)]
        simp only [rdNum, hu, intOfU, unfold_fold]
        simp [e0s, keysW, wtL_nil]
        omega
      · obtain rfl := List.eq_nil_of_length_eq_zero hl
        rw [wenc3] at h ⊢
        obtain ⟨hc, hd, hlt⟩ := head_at (show zs.drop a = 4 :: (tx s ++ rest) by rw [h]; rfl)
        have hu := text_at (a := a + 1) (most := 2048 - ((t + 1 : Nat) : Int)) (by omega) (by omega) hd
        simp only [rdV, hc]
        rw [if_neg (by omega), if_neg (by omega)]
        simp only [rdTxt, hu]
        simp [keysW, wtL_nil]
        omega
      · rw [wenc4] at h ⊢
        obtain ⟨hc, hd, hlt⟩ := head_at (show zs.drop a = 5 :: (encF 9 (l.length : Int) ++ (wencL false l [] ++ rest)) by rw [h]; simp)
        have hlw := len_wtL l
        have hcn := cnt_back (q := a) (a := a + 1) (t := t + 1) (k := 1) (by omega) (by omega) (by omega) hd
        have hrr := arr_back (rdV_back d) l [] (a + 1 + (encF 9 (l.length : Int)).length) (t + 1) rest (drop_more hd) ho.2 hi.2 (by omega)
        simp only [rdV, hc]
        rw [if_neg (by omega), if_neg (by omega)]
        simp only [rdAll, hcn, hrr]
        simp [e0s, keysW]
        omega
      · rw [wenc5] at h ⊢
        obtain ⟨hc, hd, hlt⟩ := head_at (show zs.drop a = 6 :: (encF 9 (l.length : Int) ++ (wencL true l ks ++ rest)) by rw [h]; simp)
        have hlw := len_wtL l
        have hkw := len_keysW ks
        have hcn := cnt_back (q := a) (a := a + 1) (t := t + 1) (k := 2) (by omega) (by omega) (by omega) hd
        have hrr := rec_back (rdV_back d) l [] ks [] (a + 1 + (encF 9 (l.length : Int)).length) (t + 1) rest hl (by simpa using hr) (drop_more hd) ho.2 hi.2 (by omega)
        simp only [rdV, hc]
        rw [if_neg (by omega), if_neg (by omega)]
        simp only [rdPairs, hcn, hrr]
        simp [e0s]
        omega
end Go.Proofs.Ytjkladljhbcelaa

namespace Go.Proofs.Ytjkladljhbcelaa
open Go.RowKit

theorem take_back {v : Vl} (hr : rightB v = true) (hf : fitB v = true) (ahead rest : List Int) : takeR (ahead ++ wenc v ++ rest) ahead.length = .ok (v, ahead.length + (wenc v).length) := by
  have hw := right_wt hr
  have hd : (ahead ++ wenc v ++ rest).drop ahead.length = wenc v ++ rest := by rw [List.append_assoc, List.drop_left]
  have hv := rdV_back 8 ahead.length 0 v rest hd hw.1 hf (by omega)
  unfold takeR
  rw [if_neg (by rw [List.length_append, List.length_append]; omega), Int.toNat_natCast, hv]
end Go.Proofs.Ytjkladljhbcelaa

namespace Go.Proofs.Ytjkladljhbcelaa
open Go.RowKit

set_option maxRecDepth 100000 in
set_option maxHeartbeats 400000 in
theorem weight_code (v : Vl) (x : Value) (B : Nat) (w : World) (hv : IsV w B v x) (hBs : B ≤ w.heap.size) :
    Calls Try.prog 26 #[x] w fun e w' => e = .returned (.int .i64 (wt0 v : Int)) ∧ Below w.heap.size w w' := by
  obtain ⟨k', n', s', l', ks', al', ak', cl', ck', hy', hx⟩ := hv.shape
  obtain ⟨ll, hll⟩ : ∃ ll, l'.length = ll := ⟨_, rfl⟩
  obtain ⟨m, hm⟩ : ∃ m, ks'.length = m := ⟨_, rfl⟩
  rw [hll, hm] at hx
  subst hx
  obtain ⟨w1, hw1⟩ : ∃ w1, w.alloc (.cells #[.int .i64 k', .int .i64 n', .string s', .slice al' ll cl', .slice ak' m ck'] 36) = w1 := ⟨_, rfl⟩
  have BX := Box.mk' w (.int .i64 k') (.int .i64 n') (.string s') (.slice al' ll cl') (.slice ak' m ck')
  rw [hw1] at BX
  obtain ⟨c0, c1, c2, c3, c4⟩ := row_cell BX.row
  have z1 := BX.size
  have HB := hide BX.below
  have CM := hide (measure_any v _ B w1 (hv.mono (BX.below.mono hBs)) (by omega))
  clear BX hv hy'
  go_enter Try.func26, Try.ntmps26
  go_wp2_with fail
  refine (unhide CM).mono ?_
  rintro e w2 ⟨rfl, b2⟩
  have B2 := hide b2
  clear b2 CM
  go_wp2_with fail
  go_ret
  exact ⟨rfl, (unhide HB).trans ((unhide B2).mono (by omega))⟩

end Go.Proofs.Ytjkladljhbcelaa
