/-
  The walk of the law WireBack: a right value's bytes, laid behind others and ahead of others, are read back; condition: the bytes ahead and behind are together at most 2^21.
-/
import Derived.Test.YtjphldolmahemabWRdS
import Derived.Test.YtjphldolmahemabWDec
import Derived.Test.YtjphldolmahemabWPut
import Derived.Test.YtjphldolmahemabWOneP
import Derived.Test.YtjphldolmahemabWSame
import Derived.Test.YtjphldolmahemabVRefR
namespace Go.Proofs.Ytjphldolmahemab
open Go.RowKit

theorem uint_at {zs rest : List Int} {a : Nat} {n : Int} (ha : a ≤ zs.length) (h0 : 0 ≤ n) (h1 : n ≤ 18446744073709551615) (h : zs.drop a = encF 9 n ++ rest) :
    uintAt zs a = (n, ((a + (encF 9 n).length : Nat) : Int), 0) := by
  have hb := uint_back (zs.take a) rest n h0 h1
  rw [List.append_assoc, ← h, List.take_append_drop, List.length_take, Nat.min_eq_left ha] at hb
  exact hb

theorem drop_more {zs x rest : List Int} {a : Nat} (h : zs.drop a = x ++ rest) : zs.drop (a + x.length) = rest := by
  rw [← List.drop_drop, h, List.drop_left]

theorem drop_le {zs x rest : List Int} {a : Nat} (h : zs.drop a = x ++ rest) (hx : 0 < x.length) : a + x.length ≤ zs.length := by
  have h1 := congrArg List.length h
  rw [List.length_drop, List.length_append] at h1
  omega

theorem text_at {zs rest : List Int} {a : Nat} {s : ByteArray} {most : Int} (hs : (s.size : Int) ≤ most) (hb : s.size ≤ 140737488351232) (h : zs.drop a = tx s ++ rest) :
    textOfU zs most (uintAt zs a) = (s, ((a + (tx s).length : Nat) : Int), 0) := by
  have hp := tx_pos s
  have hle := drop_le h hp
  have hlen : (tx s).length = (encF 9 (s.size : Int)).length + s.size := by unfold tx; rw [List.length_append, nums_len]
  have hd : zs.drop a = encF 9 (s.size : Int) ++ (nums s ++ rest) := by rw [h]; unfold tx; rw [List.append_assoc]
  have hu := uint_at (by omega) (by omega) (by omega) hd
  have hd2 := drop_more hd
  rw [hu]
  unfold textOfU
  rw [if_neg (by simp), if_neg (by omega), if_neg (by dsimp only; omega)]
  simp only [Int.toNat_natCast]
  rw [hd2, List.take_left' (nums_len s), nums_str]
  simp only [Prod.mk.injEq, true_and, and_true]
  omega

def CmpAt (zs : List Int) (d : Nat) (f : Nat → Nat → Except (Int × Int) (Vl × Nat × Nat)) : Prop := ∀ a t v rest, zs.drop a = wenc v ++ rest → okB d v = true → fitB v = true → t + wt v ≤ 2048 → f a t = .ok (v, a + (wenc v).length, t + wt v)

theorem arr_back {zs : List Int} {d : Nat} {f : Nat → Nat → Except (Int × Int) (Vl × Nat × Nat)} (hf : CmpAt zs d f) : ∀ (l acc : List Vl) (a t : Nat) (rest : List Int), zs.drop a = wencL false l [] ++ rest → okL d l = true → fitL l = true → t + wtL l ≤ 2048 →
    rdArr f l.length acc a t = .ok (acc ++ l, a + (wencL false l []).length, t + wtL l)
  | [], acc, a, t, rest, h, ho, hi, ht => by simp [rdArr, wencL_nil, wtL_nil]
  | v :: l, acc, a, t, rest, h, ho, hi, ht => by
    rw [wencL_cons] at h ⊢
    rw [okL_cons, Bool.and_eq_true] at ho
    rw [fitL_cons, Bool.and_eq_true] at hi
    rw [wtL_cons] at ht ⊢
    simp only [Bool.false_eq_true, if_false, List.nil_append, List.tail_nil] at h ⊢
    rw [List.append_assoc] at h
    have h1 := hf a t v _ h ho.1 hi.1 (by omega)
    have h2 := arr_back hf l (acc ++ [v]) (a + (wenc v).length) (t + wt v) rest (drop_more h) ho.2 hi.2 (by omega)
    simp only [List.length_cons, rdArr, h1, h2, List.append_assoc, List.singleton_append, List.length_append]
    simp only [Except.ok.injEq, Prod.mk.injEq, true_and]
    omega

theorem rec_back {zs : List Int} {d : Nat} {f : Nat → Nat → Except (Int × Int) (Vl × Nat × Nat)} (hf : CmpAt zs d f) : ∀ (l acc : List Vl) (ks ak : List ByteArray) (a t : Nat) (rest : List Int), ks.length = l.length → risingFrom ak.getLast? ks = true → zs.drop a = wencL true l ks ++ rest → okL d l = true → fitL l = true → t + wtL l + keysW ks ≤ 2048 →
    rdRec zs f l.length acc ak a t = .ok (acc ++ l, ak ++ ks, a + (wencL true l ks).length, t + wtL l + keysW ks)
  | [], acc, [], ak, a, t, rest, hk, hr, h, ho, hi, ht => by simp [rdRec, wencL_nil, wtL_nil, keysW]
  | [], acc, _ :: _, ak, a, t, rest, hk, hr, h, ho, hi, ht => by simp at hk
  | v :: l, acc, [], ak, a, t, rest, hk, hr, h, ho, hi, ht => by simp at hk
  | v :: l, acc, s :: ks, ak, a, t, rest, hk, hr, h, ho, hi, ht => by
    rw [wencL_cons] at h ⊢
    rw [okL_cons, Bool.and_eq_true] at ho
    rw [fitL_cons, Bool.and_eq_true] at hi
    rw [wtL_cons] at ht ⊢
    simp only [keysW] at ht ⊢
    simp only [risingFrom, Bool.and_eq_true, decide_eq_true_eq] at hr
    simp only [if_true, keyAt, List.tail_cons] at h ⊢
    rw [List.append_assoc, List.append_assoc] at h
    have hx := text_at (most := 32) (by omega) (by omega) h
    have hkey : rdKey zs ak.getLast? a t = .ok (s, a + (tx s).length, t + (1 + s.size)) := by
      unfold rdKey
      rw [hx]
      have hb : notBehind s ak.getLast? = false := by
        cases hg : ak.getLast? with
        | none => rfl
        | some p =>
          have h2 := hr.1.2
          rw [hg] at h2
          simp only at h2
          simp only [notBehind]
          rw [bl_not] at h2
          simpa using h2
      simp only [hb]
      rw [if_neg (by simp), if_neg (by simp), if_neg (by omega), Int.toNat_natCast]
    have h1 := hf (a + (tx s).length) (t + (1 + s.size)) v _ (drop_more h) ho.1 hi.1 (by omega)
    have h2 := rec_back hf l (acc ++ [v]) ks (ak ++ [s]) (a + (tx s).length + (wenc v).length) (t + (1 + s.size) + wt v) rest (by simpa using hk) (by simpa using hr.2) (drop_more (drop_more h)) ho.2 hi.2 (by omega)
    simp only [List.length_cons, rdRec, hkey, h1, h2, List.append_assoc, List.singleton_append, List.length_append]
    simp only [Except.ok.injEq, Prod.mk.injEq, true_and]
    omega

theorem head_at {zs r : List Int} {a : Nat} {c : Int} (h : zs.drop a = c :: r) : zs[a]? = some c ∧ zs.drop (a + 1) = r ∧ a < zs.length := by
  have hl : a < zs.length := by
    have h1 := congrArg List.length h
    rw [List.length_drop, List.length_cons] at h1
    omega
  rw [List.drop_eq_getElem_cons hl] at h
  simp only [List.cons.injEq] at h
  exact ⟨by rw [List.getElem?_eq_getElem hl, h.1], h.2, hl⟩

theorem len_wtL : ∀ l : List Vl, l.length ≤ wtL l
  | [] => by simp [wtL_nil]
  | x :: l => by
    have h1 := len_wtL l
    have h2 := wt_pos x
    rw [wtL_cons, List.length_cons]
    omega

theorem len_keysW : ∀ ks : List ByteArray, ks.length ≤ keysW ks
  | [] => by simp
  | s :: ks => by
    have h1 := len_keysW ks
    simp only [keysW, List.length_cons]
    omega

theorem cnt_back {zs rest : List Int} {q a t k n : Nat} (ha : a ≤ zs.length) (hk : 1 ≤ k) (hn : n * k + t ≤ 2048) (h : zs.drop a = encF 9 (n : Int) ++ rest) : rdCnt zs q a t k = .ok (n, a + (encF 9 (n : Int)).length) := by
  have hle : n ≤ 2048 := by
    have : n * 1 ≤ n * k := Nat.mul_le_mul_left n hk
    omega
  unfold rdCnt
  rw [uint_at ha (by omega) (by omega) h]
  rw [if_neg (by simp), if_neg ?_]
  · simp only [Int.toNat_natCast]
  · rw [Int.tdiv_eq_ediv_of_nonneg (by omega)]
    have h2 : (n : Int) ≤ (2048 - (t : Int)) / k := (Int.le_ediv_iff_mul_le (by omega)).2 (by
      have h4 : ((n * k : Nat) : Int) = (n : Int) * k := Int.natCast_mul n k
      omega)
    dsimp only
    omega

/-- a right value's bytes are read back -/
theorem rdV_back {zs : List Int} : ∀ d, CmpAt zs d (rdV zs d)
  | 0 => by
    intro a t v rest _ ho
    simp [okB] at ho
  | d + 1 => by
    intro a t v rest h ho hi ht
    cases v with
    | mk k n s l ks =>
      simp only [okB, Bool.and_eq_true] at ho
      simp only [fitB, Bool.and_eq_true, decide_eq_true_eq] at hi
      have hwt : wt (.mk k n s l ks) = 1 + s.size + keysW ks + wtL l := rfl
      rw [hwt] at ht ⊢
      rcases form_zero ho.1 with ⟨rfl, rfl, rfl, hl, rfl⟩ | ⟨rfl, hn, rfl, hl, rfl⟩ | ⟨rfl, rfl, hl, rfl⟩ | ⟨rfl, rfl, hl, rfl⟩ | ⟨rfl, rfl, rfl, rfl⟩ | ⟨rfl, rfl, rfl, hl, hr⟩
      · obtain rfl := List.eq_nil_of_length_eq_zero hl
        rw [wenc0] at h ⊢
        obtain ⟨hc, _, _⟩ := head_at h
        simp only [rdV, hc]
        rw [if_neg (by omega), if_neg (by omega)]
        simp [e0s, keysW, wtL_nil]
      · obtain rfl := List.eq_nil_of_length_eq_zero hl
        rw [wenc1] at h ⊢
        obtain ⟨hc, _, _⟩ := head_at h
        simp only [rdV, hc]
        rcases hn with rfl | rfl
        · rw [if_neg (by omega), if_neg (by omega)]
          simp [e0s, keysW, wtL_nil]
        · rw [if_neg (by omega), if_neg (by omega)]
          simp [e0s, keysW, wtL_nil]
      · obtain rfl := List.eq_nil_of_length_eq_zero hl
        rw [wenc2] at h ⊢
        obtain ⟨hc, hd, hlt⟩ := head_at (show zs.drop a = 3 :: (encF 9 (foldI n) ++ rest) by rw [h]; rfl)
        have fr := foldI_range hi.1.1.1.1
        have hu := uint_at (a := a + 1) (by omega) fr.1 fr.2 hd
        simp only [rdV, hc]
        rw [if_neg (by omega), if_neg (by omega)]
        simp only [rdNum, hu, intOfU, unfold_fold]
        simp [e0s, keysW, wtL_nil]
        omega
      · obtain rfl := List.eq_nil_of_length_eq_zero hl
        rw [wenc3] at h ⊢
        obtain ⟨hc, hd, hlt⟩ := head_at (show zs.drop a = 4 :: (tx s ++ rest) by rw [h]; rfl)
        have hu := text_at (a := a + 1) (most := 2048 - ((t + 1 : Nat) : Int)) (by omega) (by omega) hd
        simp only [rdV, hc]
        rw [if_neg (by omega), if_neg (by omega)]
        simp only [rdTxt, hu]
        simp [keysW, wtL_nil]
        omega
      · rw [wenc4] at h ⊢
        obtain ⟨hc, hd, hlt⟩ := head_at (show zs.drop a = 5 :: (encF 9 (l.length : Int) ++ (wencL false l [] ++ rest)) by rw [h]; simp)
        have hlw := len_wtL l
        have hcn := cnt_back (q := a) (a := a + 1) (t := t + 1) (k := 1) (by omega) (by omega) (by omega) hd
        have hrr := arr_back (rdV_back d) l [] (a + 1 + (encF 9 (l.length : Int)).length) (t + 1) rest (drop_more hd) ho.2 hi.2 (by omega)
        simp only [rdV, hc]
        rw [if_neg (by omega), if_neg (by omega)]
        simp only [rdAll, hcn, hrr]
        simp [e0s, keysW]
        omega
      · rw [wenc5] at h ⊢
        obtain ⟨hc, hd, hlt⟩ := head_at (show zs.drop a = 6 :: (encF 9 (l.length : Int) ++ (wencL true l ks ++ rest)) by rw [h]; simp)
        have hlw := len_wtL l
        have hkw := len_keysW ks
        have hcn := cnt_back (q := a) (a := a + 1) (t := t + 1) (k := 2) (by omega) (by omega) (by omega) hd
        have hrr := rec_back (rdV_back d) l [] ks [] (a + 1 + (encF 9 (l.length : Int)).length) (t + 1) rest hl (by simpa using hr) (drop_more hd) ho.2 hi.2 (by omega)
        simp only [rdV, hc]
        rw [if_neg (by omega), if_neg (by omega)]
        simp only [rdPairs, hcn, hrr]
        simp [e0s]
        omega
end Go.Proofs.Ytjphldolmahemab

namespace Go.Proofs.Ytjphldolmahemab
open Go.RowKit

theorem take_back {v : Vl} (hr : rightB v = true) (hf : fitB v = true) (ahead rest : List Int) : takeR (ahead ++ wenc v ++ rest) ahead.length = .ok (v, ahead.length + (wenc v).length) := by
  have hw := right_wt hr
  have hd : (ahead ++ wenc v ++ rest).drop ahead.length = wenc v ++ rest := by rw [List.append_assoc, List.drop_left]
  have hv := rdV_back 8 ahead.length 0 v rest hd hw.1 hf (by omega)
  unfold takeR
  rw [if_neg (by rw [List.length_append, List.length_append]; omega), Int.toNat_natCast, hv]

theorem dec_back {v : Vl} (hr : rightB v = true) (hf : fitB v = true) (rest : List Int) : decR (wenc v ++ rest) = if 0 < rest.length then .error (43, ((wenc v).length : Int)) else .ok v := by
  have ht := take_back hr hf [] rest
  rw [List.nil_append, List.length_nil, Nat.zero_add] at ht
  have ht' : takeR (wenc v ++ rest) 0 = .ok (v, (wenc v).length) := ht
  simp only [decR, ht', List.length_append]
  by_cases h : 0 < rest.length
  · rw [if_pos h, if_pos (by omega)]
  · rw [if_neg h, if_neg (by omega)]

set_option maxRecDepth 100000 in
set_option maxHeartbeats 400000 in
theorem length_any (v : Vl) (x : Value) (B : Nat) (w : World) (hv : IsV w B v x) (hBs : B ≤ w.heap.size) :
    Calls Try.prog 14 #[x] w fun e w' => e = .returned (.int .i64 ((wenc0R v).length : Int)) ∧ Below w.heap.size w w' := by
  obtain ⟨k, n, s, l, ks, al, ak, cl, ck, hvv, hx⟩ := hv.shape
  clear hvv
  obtain ⟨m, hm⟩ : ∃ m, ks.length = m := ⟨_, rfl⟩
  obtain ⟨ln, hln⟩ : ∃ ln, l.length = ln := ⟨_, rfl⟩
  rw [hm, hln] at hx
  subst hx
  obtain ⟨w1, hw1⟩ : ∃ w1, w.alloc (.cells #[.int .i64 k, .int .i64 n, .string s, .slice al ln cl, .slice ak m ck] 26) = w1 := ⟨_, rfl⟩
  have BX := Box.mk' w (.int .i64 k) (.int .i64 n) (.string s) (.slice al ln cl) (.slice ak m ck)
  rw [hw1] at BX
  obtain ⟨c0, c1, c2, c3, c4⟩ := row_cell BX.row
  have z1 := BX.size
  have CE := hide (encode_any v _ B w1 (hv.mono (BX.below.mono hBs)) (by omega))
  obtain ⟨Z, hZ⟩ : ∃ Z, wenc0R v = Z := ⟨_, rfl⟩
  rw [hZ] at CE ⊢
  obtain ⟨C, hC⟩ : ∃ C, codeR v = C := ⟨_, rfl⟩
  rw [hC] at CE
  have HB := hide BX.below
  clear BX hv hm hln hZ hC
  go_enter Try.func14, Try.ntmps14
  go_wp2_with fail
  refine (unhide CE).mono ?_
  rintro e w2 ⟨ao, len, cap, rfl, r2, b2, n2⟩
  have hl := r2.length
  have hm2 : len ≤ maxLen := Nat.le_trans r2.le n2.2
  have H2 := hide b2
  subst hl
  clear r2 b2 n2 CE
  go_wp2_with fail
  go_ret
  exact ⟨rfl, (unhide HB).trans ((unhide H2).mono (by omega))⟩
end Go.Proofs.Ytjphldolmahemab

namespace Go.Proofs.Ytjphldolmahemab.wireBack
open Go.RowKit
set_option linter.unusedVariables false

theorem new_var (u : World) (A : Array Value) (G : Nat) (hG : u.heap.size = G) :
    (u.alloc (.cells A 26)).heap[G]? = some (.cells A 26 (0, 0)) ∧ Below G u (u.alloc (.cells A 26)) ∧ (u.alloc (.cells A 26)).heap.size = G + 1 := by
  subst hG
  exact ⟨heap_alloc_new u _, (Below.refl _ _).alloc (Nat.le_refl _) _, by simp⟩

theorem sm_self {v : Vl} (h : rightB v = true) : smB v v = true := by
  have := (sameB_iff v v).2 rfl
  simp [smB, few_right h, this]

theorem wenc_bound {v : Vl} (h : rightB v = true) : (wenc v).length ≤ 43008 := by
  have h1 := right_wt h
  have h2 := wenc_len v
  omega

theorem small_app {a b : List Int} (ha : ∀ n ∈ a, 0 ≤ n ∧ n ≤ 255) (hb : ∀ n ∈ b, 0 ≤ n ∧ n ≤ 255) : ∀ n ∈ a ++ b, 0 ≤ n ∧ n ≤ 255 := by
  intro n hn
  rcases List.mem_append.1 hn with h | h
  · exact ha n h
  · exact hb n h

theorem row_tail {w : World} {g N cap lb : Nat} {zs ys : List Int} (h : Row8 w (some ⟨g, 0, none⟩) N cap (zs ++ ys)) (hl : zs.length = lb) : Row8 w (some ⟨g, lb, none⟩) (N - lb) (cap - lb) ys := by
  have h1 := h.length
  rw [List.length_append] at h1
  refine ⟨by omega, (fun e => by cases e), fun ad ha j u hj => ?_, fun n hn => h.small n (List.mem_append_right _ hn), by have := h.le; omega⟩
  cases ha
  have := h.cells ⟨g, 0, none⟩ rfl (lb + j) u (by rw [List.map_append, List.getElem?_append_right (by rw [List.length_map]; omega), List.length_map, hl, Nat.add_sub_cancel_left]; exact hj)
  have e1 : (⟨g, 0, none⟩ : Addr).add (lb + j) = ⟨g, lb + j, none⟩ := by unfold Addr.add; split <;> simp_all
  have e2 : (⟨g, lb, none⟩ : Addr).add j = ⟨g, lb + j, none⟩ := by unfold Addr.add; split <;> simp_all
  rw [e1] at this
  rw [e2]
  exact this

set_option maxRecDepth 100000 in
set_option maxHeartbeats 1000000 in
theorem walk_no (ab : Option Addr) (lb cb : Nat) (zs : List Int) (v : Vl) (x : Value) (ar : Option Addr) (lr cr : Nat) (rs : List Int) (w : World) (hz : Row8 w ab lb cb zs) (hv : IsV w w.heap.size v x) (hrs : Row8 w ar lr cr rs) (hs : lb + lr ≤ 2097152) (hR : rightB v = false) :
    Calls Try.prog 6 #[.slice ab lb cb, x, .slice ar lr cr] w fun e w' => e = .returned (.bool true) ∧ Below w.heap.size w w' := by
  obtain ⟨k, n, s, l, ks, al, ak, cl, ck, hvv, hx⟩ := hv.shape
  clear hvv
  obtain ⟨m, hm⟩ : ∃ m, ks.length = m := ⟨_, rfl⟩
  obtain ⟨ln, hln⟩ : ∃ ln, l.length = ln := ⟨_, rfl⟩
  rw [hm, hln] at hx
  subst hx
  obtain ⟨w1, hw1⟩ : ∃ w1, w.alloc (.cells #[.int .i64 k, .int .i64 n, .string s, .slice al ln cl, .slice ak m ck] 26) = w1 := ⟨_, rfl⟩
  have BX := Box.mk' w (.int .i64 k) (.int .i64 n) (.string s) (.slice al ln cl) (.slice ak m ck)
  rw [hw1] at BX
  obtain ⟨c0, c1, c2, c3, c4⟩ := row_cell BX.row
  have HT : Hid (∀ u, Below w1.heap.size w1 u → u.heap[w.heap.size]? = some (.cells #[.int .i64 k, .int .i64 n, .string s, .slice al ln cl, .slice ak m ck] 26 (0, 0)) ∧ IsV u u.heap.size v (.agg #[.int .i64 k, .int .i64 n, .string s, .slice al ln cl, .slice ak m ck]) ∧ Below w.heap.size w u ∧ Row8 u ab lb cb zs) := hide (fun u hu => by
    have hz1 := BX.size
    have h1 : Below w.heap.size w u := BX.below.trans (hu.mono (by omega))
    exact ⟨(hu.block _ (by omega)).trans BX.row, (hv.mono h1).lift h1.size, h1, hz.later h1⟩)
  have X0 : Hid (Below w1.heap.size w1 w1) := hide (Below.refl _ _)
  have CC := hide (copied_any v _ _ w1 (unhide HT w1 (unhide X0)).2.1 (Nat.le_refl _))
  have hC : codeR v = 40 := by simp [codeR, hR]
  have hW : wenc0R v = [] := by simp [wenc0R, hR]
  have CP : Hid (∀ (u : World) (y : Value), Below w1.heap.size w1 u → IsV u u.heap.size v y → Calls Try.prog 10 #[.slice ab lb cb, y] u fun e w' => ∃ (ao : Option Addr) (cap : Nat), e = .returned (.tuple #[.slice ao 0 cap, .int .i64 40]) ∧ Below u.heap.size u w') := hide (fun u y hu hy => by
    refine (put_any ab lb cb zs v y _ u (unhide HT u hu).2.2.2 hy (Nat.le_refl _) (by omega)).mono ?_
    rintro e u' ⟨ao, len, cap, rfl, r, b, -⟩
    have hl := r.length
    rw [hR] at hl
    simp at hl
    subst hl
    rw [hC]
    exact ⟨ao, cap, rfl, b⟩)
  have CR : Hid (∀ u : World, Below w1.heap.size w1 u → Calls Try.prog 24 #[.agg #[.int .i64 k, .int .i64 n, .string s, .slice al ln cl, .slice ak m ck]] u fun e w' => e = .returned (.bool false) ∧ Below u.heap.size u w') := hide (fun u hu => by
    have := right_ref v _ _ u (unhide HT u hu).2.1 (Nat.le_refl _)
    rw [hR] at this
    exact this)
  have CL : Hid (∀ u : World, Below w1.heap.size w1 u → Calls Try.prog 14 #[.agg #[.int .i64 k, .int .i64 n, .string s, .slice al ln cl, .slice ak m ck]] u fun e w' => e = .returned (.int .i64 0) ∧ Below u.heap.size u w') := hide (fun u hu => by
    have := length_any v _ _ u (unhide HT u hu).2.1 (Nat.le_refl _)
    rw [hW] at this
    exact this)
  clear BX hv hm hln hz hrs hC hW hR
  go_enter Try.func6, Try.ntmps6
  go_wp2_with fail
  refine (unhide CC).mono ?_
  rintro e u2 ⟨y, rfl, hy, b2⟩
  have X2 : Hid (Below w1.heap.size w1 u2) := hide b2
  have C2 := hide (unhide CP u2 y b2 hy)
  obtain ⟨k', n', s', l', ks', al', ak', cl', ck', hy', rfl⟩ := hy.shape
  clear b2 CC CP hy'
  go_wp2_with fail
  refine (unhide C2).mono ?_
  rintro e u3 ⟨a3, cap3, rfl, b3⟩
  have X3 : Hid (Below w1.heap.size w1 u3) := hide ((unhide X2).trans (b3.mono (unhide X2).size))
  clear b3 C2 hy c0 c1 c2 c3 c4
  obtain ⟨c0, c1, c2, c3, c4⟩ := row_cell (unhide HT u3 (unhide X3)).1
  go_wp2_with fail
  refine (unhide CR u3 (unhide X3)).mono ?_
  rintro e u4 ⟨rfl, b4⟩
  have X4 : Hid (Below w1.heap.size w1 u4) := hide ((unhide X3).trans (b4.mono (unhide X3).size))
  clear b4 c0 c1 c2 c3 c4
  obtain ⟨c0, c1, c2, c3, c4⟩ := row_cell (unhide HT u4 (unhide X4)).1
  go_wp2_with fail
  refine (unhide CL u4 (unhide X4)).mono ?_
  rintro e u5 ⟨rfl, b5⟩
  have X5 : Hid (Below w1.heap.size w1 u5) := hide ((unhide X4).trans (b5.mono (unhide X4).size))
  clear b5
  go_wp2_with fail
  go_ret
  exact ⟨rfl, (unhide HT u5 (unhide X5)).2.2.1⟩

set_option maxRecDepth 100000 in
set_option maxHeartbeats 1000000 in
theorem walk_ok (ab : Option Addr) (lb cb : Nat) (zs : List Int) (v : Vl) (x : Value) (ar : Option Addr) (lr cr : Nat) (rs : List Int) (w : World) (hz : Row8 w ab lb cb zs) (hv : IsV w w.heap.size v x) (hrs : Row8 w ar lr cr rs) (hs : lb + lr ≤ 2097152) (hR : rightB v = true) :
    Calls Try.prog 6 #[.slice ab lb cb, x, .slice ar lr cr] w fun e w' => e = .returned (.bool true) ∧ Below w.heap.size w w' := by
  have hfit := hv.fit
  have hL := wenc_bound hR
  have hP := wenc_pos v 8 (right_wt hR).1
  have hsm := wenc_small v 8 (right_wt hR).1 hfit
  have hzl := hz.length
  have hrl := hrs.length
  have hTk := take_back hR hfit zs rs
  have hDc := dec_back hR hfit rs
  rw [hzl] at hTk
  rw [hrl] at hDc
  obtain ⟨k, n, s, l, ks, al, ak, cl, ck, hvv, hx⟩ := hv.shape
  clear hvv
  obtain ⟨m, hm⟩ : ∃ m, ks.length = m := ⟨_, rfl⟩
  obtain ⟨ln, hln⟩ : ∃ ln, l.length = ln := ⟨_, rfl⟩
  rw [hm, hln] at hx
  subst hx
  obtain ⟨w1, hw1⟩ : ∃ w1, w.alloc (.cells #[.int .i64 k, .int .i64 n, .string s, .slice al ln cl, .slice ak m ck] 26) = w1 := ⟨_, rfl⟩
  have BX := Box.mk' w (.int .i64 k) (.int .i64 n) (.string s) (.slice al ln cl) (.slice ak m ck)
  rw [hw1] at BX
  obtain ⟨c0, c1, c2, c3, c4⟩ := row_cell BX.row
  have HT : Hid (∀ u, Below w1.heap.size w1 u → u.heap[w.heap.size]? = some (.cells #[.int .i64 k, .int .i64 n, .string s, .slice al ln cl, .slice ak m ck] 26 (0, 0)) ∧ IsV u u.heap.size v (.agg #[.int .i64 k, .int .i64 n, .string s, .slice al ln cl, .slice ak m ck]) ∧ Below w.heap.size w u ∧ Row8 u ab lb cb zs ∧ Row8 u ar lr cr rs) := hide (fun u hu => by
    have hz1 := BX.size
    have h1 : Below w.heap.size w u := BX.below.trans (hu.mono (by omega))
    exact ⟨(hu.block _ (by omega)).trans BX.row, (hv.mono h1).lift h1.size, h1, hz.later h1, hrs.later h1⟩)
  have X0 : Hid (Below w1.heap.size w1 w1) := hide (Below.refl _ _)
  have CC := hide (copied_any v _ _ w1 (unhide HT w1 (unhide X0)).2.1 (Nat.le_refl _))
  obtain ⟨L, hLL⟩ : ∃ L, (wenc v).length = L := ⟨_, rfl⟩
  have hC : codeR v = 0 := by simp [codeR, hR]
  have hW : wenc0R v = wenc v := by simp [wenc0R, hR]
  have CP : Hid (∀ (u : World) (y : Value), Below w1.heap.size w1 u → IsV u u.heap.size v y → Calls Try.prog 10 #[.slice ab lb cb, y] u fun e w' => ∃ (g cap : Nat), e = .returned (.tuple #[.slice (some ⟨g, 0, none⟩) (lb + L) cap, .int .i64 0]) ∧ Below u.heap.size u w' ∧ u.heap.size ≤ g ∧ w'.ownsRow u.heap.size 5 1 (.slice (some ⟨g, 0, none⟩) (lb + L) cap) (lb + L) ((zs ++ wenc v).map (Value.int .u8)) ∧ cap ≤ maxLen) := hide (fun u y hu hy => by
    refine (put_any ab lb cb zs v y _ u (unhide HT u hu).2.2.2.1 hy (Nat.le_refl _) (by omega)).mono ?_
    rintro e u' ⟨ao, len, cap, rfl, r, b, hnew, hmx, hown⟩
    have hl := r.length
    rw [if_pos hR, List.length_append, hzl, hLL] at hl
    subst hl
    rw [hC]
    have ho := hown hR
    obtain ⟨g, cap', hg, hb'⟩ := own_form ho (by omega)
    simp only [Value.slice.injEq] at hg
    obtain ⟨rfl, -, rfl⟩ := hg
    exact ⟨g, cap, rfl, b, hb', ho, hmx⟩)
  have CR : Hid (∀ u : World, Below w1.heap.size w1 u → Calls Try.prog 24 #[.agg #[.int .i64 k, .int .i64 n, .string s, .slice al ln cl, .slice ak m ck]] u fun e w' => e = .returned (.bool true) ∧ Below u.heap.size u w') := hide (fun u hu => by
    have := right_ref v _ _ u (unhide HT u hu).2.1 (Nat.le_refl _)
    rw [hR] at this
    exact this)
  have CL : Hid (∀ u : World, Below w1.heap.size w1 u → Calls Try.prog 14 #[.agg #[.int .i64 k, .int .i64 n, .string s, .slice al ln cl, .slice ak m ck]] u fun e w' => e = .returned (.int .i64 L) ∧ Below u.heap.size u w') := hide (fun u hu => by
    have := length_any v _ _ u (unhide HT u hu).2.1 (Nat.le_refl _)
    rw [hW, hLL] at this
    exact this)
  have CT : Hid (∀ (u : World) (g N cap : Nat), Row8 u (some ⟨g, 0, none⟩) N cap (zs ++ wenc v ++ rs) → cap ≤ maxLen → Calls Try.prog 18 #[.slice (some ⟨g, 0, none⟩) N cap, .int .i64 lb] u fun e w' => ∃ x, e = .returned (.tuple #[x, .int .i64 ((lb + L : Nat) : Int), .int .i64 0]) ∧ IsP w' (fun b => u.heap.size ≤ b ∧ b < w'.heap.size) v x ∧ Below u.heap.size u w') := hide (fun u g N cap h hm => by
    have := take_any (some ⟨g, 0, none⟩) N cap _ (lb : Int) u h hm
    rw [hTk, hLL] at this
    exact this)
  have CD : Hid (∀ (u : World) (g N cap : Nat), Row8 u (some ⟨g, 0, none⟩) N cap (zs ++ wenc v ++ rs) → cap ≤ maxLen → Calls Try.prog 22 #[.slice (some ⟨g, lb, none⟩) (N - lb) (cap - lb)] u fun e w' => ResD u (if 0 < lr then .error (43, (L : Int)) else .ok v) e w') := hide (fun u g N cap h hm => by
    have h' : Row8 u (some ⟨g, 0, none⟩) N cap (zs ++ (wenc v ++ rs)) := by rw [← List.append_assoc]; exact h
    have := decode_any (some ⟨g, lb, none⟩) (N - lb) (cap - lb) _ u (row_tail h' hzl) (by omega)
    rw [hDc, hLL] at this
    exact this)
  have CS : Hid (∀ (u : World) (y : Value), Below w1.heap.size w1 u → IsV u u.heap.size v y → Calls Try.prog 12 #[y, .agg #[.int .i64 k, .int .i64 n, .string s, .slice al ln cl, .slice ak m ck]] u fun e w' => e = .returned (.bool true) ∧ Below u.heap.size u w') := hide (fun u y hu hy => by
    have := same_any v v y _ _ u hy (unhide HT u hu).2.1 (Nat.le_refl _)
    rw [sm_self hR] at this
    exact this)
  have CS0 : Hid (∀ u : World, Calls Try.prog 12 #[.agg #[.int .i64 0, .int .i64 0, .string ⟨#[]⟩, .slice none 0 0, .slice none 0 0], .agg #[.int .i64 0, .int .i64 0, .string ⟨#[]⟩, .slice none 0 0, .slice none 0 0]] u fun e w' => e = .returned (.bool true) ∧ Below u.heap.size u w') := hide (fun u => by
    have := same_any (.mk 0 0 ⟨#[]⟩ [] []) (.mk 0 0 ⟨#[]⟩ [] []) _ _ u.heap.size u (plain_val u _ 0 0 ⟨#[]⟩ (by omega) (by omega) (by rw [e0s]; omega)) (plain_val u _ 0 0 ⟨#[]⟩ (by omega) (by omega) (by rw [e0s]; omega)) (Nat.le_refl _)
    rw [sm_self right_unit] at this
    exact this)
  have HSM := hide (small_app (small_app hz.small hsm) hrs.small)
  have HZL := hide (And.intro hzl (And.intro hLL hrl))
  have z1 := BX.size
  have Z1 := hide z1
  rw [hLL] at hP hL
  clear BX hv hm hln hz hrs hC hW hR hTk hDc hsm hfit hzl hrl hLL z1
  go_enter Try.func6, Try.ntmps6
  go_wp2_with fail
  refine (unhide CC).mono ?_
  rintro e u2 ⟨y, rfl, hy, b2⟩
  have X2 : Hid (Below w1.heap.size w1 u2) := hide b2
  have C2 := hide (unhide CP u2 y b2 hy)
  obtain ⟨k', n', s', l', ks', al', ak', cl', ck', hy', rfl⟩ := hy.shape
  clear b2 CC CP hy'
  go_wp2_with fail
  refine (unhide C2).mono ?_
  rintro e u3 ⟨g, cap3, rfl, b3, hg3, ho3, hm3⟩
  have X3 : Hid (Below w1.heap.size w1 u3) := hide ((unhide X2).trans (b3.mono (unhide X2).size))
  have O3 : Hid (u3.ownsRow u2.heap.size 5 1 (.slice (some ⟨g, 0, none⟩) (lb + L) cap3) (lb + L) ((zs ++ wenc v).map (Value.int .u8))) := hide ho3
  have G3 := hide (And.intro hg3 (unhide X2).size)
  clear b3 C2 hy c0 c1 c2 c3 c4 ho3 hg3
  obtain ⟨c0, c1, c2, c3, c4⟩ := row_cell (unhide HT u3 (unhide X3)).1
  go_wp2_with fail
  refine (unhide CR u3 (unhide X3)).mono ?_
  rintro e u4 ⟨rfl, b4⟩
  have X4 : Hid (Below w1.heap.size w1 u4) := hide ((unhide X3).trans (b4.mono (unhide X3).size))
  have O4 := hide (own_below (unhide O3) b4)
  clear b4 c0 c1 c2 c3 c4 O3
  obtain ⟨c0, c1, c2, c3, c4⟩ := row_cell (unhide HT u4 (unhide X4)).1
  go_wp2_with fail
  refine (unhide CL u4 (unhide X4)).mono ?_
  rintro e u5 ⟨rfl, b5⟩
  have X5 : Hid (Below w1.heap.size w1 u5) := hide ((unhide X4).trans (b5.mono (unhide X4).size))
  have O5 := hide (own_below (unhide O4) b5)
  clear b5 O4 c0 c1 c2 c3 c4
  have hbs : u2.heap.size ≤ u5.heap.size := by
    have h1 := ((unhide O5).lt g rfl).2
    have h2 := (unhide G3).1
    omega
  have HBS := hide hbs
  clear hbs
  go_wp2_with (first | (at_builtin; refine app_row rfl (.tmp 52) (.tmp 53) rfl u2.heap.size g _ _ _ rfl (unhide O5) (by omega) ar lr cr rs rfl (unhide HT u5 (unhide X5)).2.2.2.2 (by omega) (unhide HBS) ?_; intro g6 c6 u6 hg6 o6 gr6))
  have X6 : Hid (Below w1.heap.size w1 u6) := hide ((unhide X5).grown gr6 (unhide X5).size (by intro k hk; cases hk; have := unhide G3; omega))
  rw [← List.map_append] at o6
  have m6 : c6 ≤ maxLen := by
    rcases o6.2 with ⟨e, _⟩ | ⟨_, cap', _, e, _, _, _, hm, _⟩
    · cases e
    · cases e; exact hm
  have R6 := Row8.own o6 (unhide HSM)
  have l6 : lb + L + lr ≤ c6 := R6.le
  have CT6 := hide (unhide CT u6 g6 _ c6 R6 m6)
  have CD6 : Hid (∀ u, Below u6.heap.size u6 u → Calls Try.prog 22 #[.slice (some ⟨g6, lb, none⟩) (lb + L + lr - lb) (c6 - lb)] u fun e w' => ResD u (if 0 < lr then .error (43, (L : Int)) else .ok v) e w') := hide (fun u hu => unhide CD u g6 _ c6 (R6.later hu) m6)
  have M6 : Hid (c6 ≤ maxLen) := hide m6
  have m6' : c6 ≤ 9223372036854775807 := by unfold maxLen at m6; omega
  clear o6 gr6 R6 CT CD O5 m6 hg6
  refine (unhide CT6).mono ?_
  rintro e u7 ⟨x7, rfl, p7, b7⟩
  obtain ⟨k5, n5, s5, l5, ks5, al5, ak5, cl5, ck5, hy5, rfl⟩ := p7.shape
  clear hy5
  obtain ⟨lc5, hlc5⟩ : ∃ lc5, l5.length = lc5 := ⟨_, rfl⟩
  obtain ⟨mc5, hmc5⟩ : ∃ mc5, ks5.length = mc5 := ⟨_, rfl⟩
  rw [hlc5, hmc5] at p7 ⊢
  clear hlc5 hmc5
  have H7 := hide (And.intro p7 b7)
  clear p7 b7 CT6
  go_upto_region 9 with fail
  obtain ⟨G7, hG7⟩ : ∃ G, u7.heap.size = G := ⟨_, rfl⟩
  have N7 := new_var u7 #[.int .i64 k5, .int .i64 n5, .string s5, .slice al5 lc5 cl5, .slice ak5 mc5 ck5] G7 hG7
  simp only [hG7]
  obtain ⟨w8, hw8⟩ : ∃ w8, u7.alloc (.cells #[.int .i64 k5, .int .i64 n5, .string s5, .slice al5 lc5 cl5, .slice ak5 mc5 ck5] 26) = w8 := ⟨_, rfl⟩
  rw [hw8] at N7 ⊢
  have B68 : Below u6.heap.size u6 w8 := (unhide H7).2.trans (N7.2.1.mono (by have := (unhide H7).2.size; omega))
  have X8 : Hid (Below w1.heap.size w1 w8) := hide ((unhide X6).trans (B68.mono (unhide X6).size))
  have HI : Hid (∀ u, Below w8.heap.size w8 u → IsV u u.heap.size v (.agg #[.int .i64 k5, .int .i64 n5, .string s5, .slice al5 lc5 cl5, .slice ak5 mc5 ck5]) ∧ u.heap[G7]? = some (.cells #[.int .i64 k5, .int .i64 n5, .string s5, .slice al5 lc5 cl5, .slice ak5 mc5 ck5] 26 (0, 0)) ∧ Below w1.heap.size w1 u) := hide (fun u hu => by
    have hs8 := N7.2.2
    have b7u : Below u7.heap.size u7 u := by
      rw [hG7]
      exact N7.2.1.trans (hu.mono (by omega))
    refine ⟨((unhide H7).1.move (fun c hc => b7u.block c hc.2)).isV (fun c hc => Nat.lt_of_lt_of_le hc.2 b7u.size), (hu.block G7 (by omega)).trans N7.1, (unhide X8).trans (hu.mono (unhide X8).size)⟩)
  have CD8 := hide (unhide CD6 w8 B68)
  have HZ8 : Hid (w8.heap.size = G7 + 1) := hide N7.2.2
  clear hw8 N7 B68 hG7 CD6 H7
  have i1 : (0 : Int) ≤ (lb : Int) := by omega
  have i2 : (lb : Int) ≤ ((lb + L + lr : Nat) : Int) := by omega
  have i3 : ((lb + L + lr : Nat) : Int) ≤ (c6 : Int) := by omega
  have i4 : (lb : Int) < (c6 : Int) := by omega
  have i5 : lb ≠ c6 := by omega
  by_cases hlr : 0 < lr
  · rw [if_pos hlr] at CD8
    have hlr' : (0 : Int) < (lr : Int) := by omega
    go_wp2_with fail
    refine (unhide CD8).mono ?_
    rintro e u9 ⟨rfl, b9⟩
    have H9 := hide b9
    clear b9 CD8
    go_upto_region 10 with fail
    obtain ⟨G9, hG9⟩ : ∃ G, u9.heap.size = G := ⟨_, rfl⟩
    have N9 := new_var u9 #[.int .i64 0, .int .i64 0, .string ⟨#[]⟩, .slice none 0 0, .slice none 0 0] G9 hG9
    simp only [hG9]
    obtain ⟨w10, hw10⟩ : ∃ w10, u9.alloc (.cells #[.int .i64 0, .int .i64 0, .string ⟨#[]⟩, .slice none 0 0, .slice none 0 0] 26) = w10 := ⟨_, rfl⟩
    rw [hw10] at N9 ⊢
    have B810 : Below w8.heap.size w8 w10 := (unhide H9).trans (N9.2.1.mono (by have := (unhide H9).size; omega))
    have z10 := N9.2.2
    have HK : Hid (∀ u, Below w10.heap.size w10 u → u.heap[G9]? = some (.cells #[.int .i64 0, .int .i64 0, .string ⟨#[]⟩, .slice none 0 0, .slice none 0 0] 26 (0, 0)) ∧ Below w8.heap.size w8 u) := hide (fun u hu => ⟨(hu.block G9 (by omega)).trans N9.1, B810.trans (hu.mono B810.size)⟩)
    obtain ⟨c0, c1, c2, c3, c4⟩ := row_cell (unhide HI w10 B810).2.1
    obtain ⟨d0, d1, d2, d3, d4⟩ := row_cell (unhide HT w10 (unhide HI w10 B810).2.2).1
    have CS1 := hide (unhide CS w10 _ (unhide HI w10 B810).2.2 (unhide HI w10 B810).1)
    clear hw10 N9 B810 hG9 z10
    clear i1 i2 i3 i4 i5
    go_wp2_with fail
    refine (unhide CS1).mono ?_
    rintro e u11 ⟨rfl, b11⟩
    have X11 : Hid (Below w10.heap.size w10 u11) := hide b11
    clear b11 CS1 c0 c1 c2 c3 c4 d0 d1 d2 d3 d4
    obtain ⟨d0, d1, d2, d3, d4⟩ := row_cell (unhide HT u11 (unhide HI u11 (unhide HK u11 (unhide X11)).2).2.2).1
    obtain ⟨f0, f1, f2, f3, f4⟩ := row_cell (unhide HK u11 (unhide X11)).1
    go_upto_region 13 with fail
    obtain ⟨A, hA⟩ : ∃ A : Int, (lb : Int) + (L : Int) = A := ⟨_, rfl⟩
    have hq : A - (lb : Int) = (L : Int) := by omega
    simp only [hA]
    clear hA
    go_wp2_with fail
    refine (unhide CS0 u11).mono ?_
    rintro e u12 ⟨rfl, b12⟩
    have X12 : Hid (Below w10.heap.size w10 u12) := hide ((unhide X11).trans (b12.mono (unhide X11).size))
    clear b12
    go_wp2_with fail
    go_ret
    exact ⟨by simp, (unhide HT u12 (unhide HI u12 (unhide HK u12 (unhide X12)).2).2.2).2.2.1⟩
  · rw [if_neg hlr] at CD8
    have hlr' : ¬ (0 : Int) < (lr : Int) := by omega
    go_wp2_with fail
    refine (unhide CD8).mono ?_
    rintro e u9 ⟨x9, rfl, p9, b9⟩
    obtain ⟨k6, n6, s6, l6', ks6, al6, ak6, cl6, ck6, hy6, rfl⟩ := p9.shape
    clear hy6
    obtain ⟨lc6, hlc6⟩ : ∃ lc6, l6'.length = lc6 := ⟨_, rfl⟩
    obtain ⟨mc6, hmc6⟩ : ∃ mc6, ks6.length = mc6 := ⟨_, rfl⟩
    rw [hlc6, hmc6] at p9 ⊢
    clear hlc6 hmc6
    have H9 := hide b9
    have P9 := hide p9
    clear b9 p9 CD8
    go_upto_region 10 with fail
    obtain ⟨G9, hG9⟩ : ∃ G, u9.heap.size = G := ⟨_, rfl⟩
    have N9 := new_var u9 #[.int .i64 k6, .int .i64 n6, .string s6, .slice al6 lc6 cl6, .slice ak6 mc6 ck6] G9 hG9
    simp only [hG9]
    obtain ⟨w10, hw10⟩ : ∃ w10, u9.alloc (.cells #[.int .i64 k6, .int .i64 n6, .string s6, .slice al6 lc6 cl6, .slice ak6 mc6 ck6] 26) = w10 := ⟨_, rfl⟩
    rw [hw10] at N9 ⊢
    have B810 : Below w8.heap.size w8 w10 := (unhide H9).trans (N9.2.1.mono (by have := (unhide H9).size; omega))
    have z10 := N9.2.2
    have HJ : Hid (∀ u, Below w10.heap.size w10 u → IsV u u.heap.size v (.agg #[.int .i64 k6, .int .i64 n6, .string s6, .slice al6 lc6 cl6, .slice ak6 mc6 ck6])) := hide (fun u hu => by
      have b9u : Below u9.heap.size u9 u := by
        rw [hG9]
        exact N9.2.1.trans (hu.mono (by omega))
      exact ((unhide P9).move (fun c hc => b9u.block c hc.2)).isV (fun c hc => Nat.lt_of_lt_of_le hc.2 b9u.size))
    have HK : Hid (∀ u, Below w10.heap.size w10 u → u.heap[G9]? = some (.cells #[.int .i64 k6, .int .i64 n6, .string s6, .slice al6 lc6 cl6, .slice ak6 mc6 ck6] 26 (0, 0)) ∧ Below w8.heap.size w8 u) := hide (fun u hu => ⟨(hu.block G9 (by omega)).trans N9.1, B810.trans (hu.mono B810.size)⟩)
    obtain ⟨c0, c1, c2, c3, c4⟩ := row_cell (unhide HI w10 B810).2.1
    obtain ⟨d0, d1, d2, d3, d4⟩ := row_cell (unhide HT w10 (unhide HI w10 B810).2.2).1
    have CS1 := hide (unhide CS w10 _ (unhide HI w10 B810).2.2 (unhide HI w10 B810).1)
    clear hw10 N9 B810 hG9 z10
    clear i1 i2 i3 i4 i5
    go_wp2_with fail
    refine (unhide CS1).mono ?_
    rintro e u11 ⟨rfl, b11⟩
    have X11 : Hid (Below w10.heap.size w10 u11) := hide b11
    clear b11 CS1 c0 c1 c2 c3 c4 d0 d1 d2 d3 d4
    obtain ⟨d0, d1, d2, d3, d4⟩ := row_cell (unhide HT u11 (unhide HI u11 (unhide HK u11 (unhide X11)).2).2.2).1
    obtain ⟨f0, f1, f2, f3, f4⟩ := row_cell (unhide HK u11 (unhide X11)).1
    have CS2 := hide (unhide CS u11 _ (unhide HI u11 (unhide HK u11 (unhide X11)).2).2.2 (unhide HJ u11 (unhide X11)))
    go_wp2_with fail
    refine (unhide CS2).mono ?_
    rintro e u12 ⟨rfl, b12⟩
    have X12 : Hid (Below w10.heap.size w10 u12) := hide ((unhide X11).trans (b12.mono (unhide X11).size))
    clear b12
    go_wp2_with fail
    go_ret
    exact ⟨by simp, (unhide HT u12 (unhide HI u12 (unhide HK u12 (unhide X12)).2).2.2).2.2.1⟩
end Go.Proofs.Ytjphldolmahemab.wireBack
