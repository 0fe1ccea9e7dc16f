/-
  append onto a row of bytes of the call's own: the row that was appended to stands as it stood; no conditions.
  A right value's bytes are read back wherever they stand; no conditions.
  No module's bytes (layer 9) begin another's; no conditions.
  A right module's bytes (layer 9) are read back as the module, and nothing that begins with them or that they begin with is; no conditions.
-/
import Derived.Test.YtfdnhpmldnmncaaWApp
import Derived.Test.YtfdnhpmldnmncaaWRdS
import Derived.Test.YtfdnhpmldnmncaaWTake
import Derived.Test.YtfdnhpmldnmncaaWPut
import Derived.Test.YtfdnhpmldnmncaaM4
import Derived.Test.YtfdnhpmldnmncaaDB
namespace Go.Proofs.Ytfdnhpmldnmncaa
open Go.RowKit

theorem own_kept {w w' : World} {base : Nat} {g n cap : Nat} {xs : List Value} (h : w.ownsRow base 5 1 (.slice (some ⟨g, 0, none⟩) n cap) n xs) (hb : w'.heap[g]? = w.heap[g]?) : w'.ownsRow base 5 1 (.slice (some ⟨g, 0, none⟩) n cap) n xs := by
  refine ⟨h.1, ?_⟩
  rcases h.2 with hn | ⟨g', cap', cur, he, hbs, hg, rest⟩
  · exact .inl hn
  · simp only [Value.slice.injEq, Option.some.injEq, Addr.mk.injEq, true_and, and_true] at he
    obtain ⟨rfl, rfl⟩ := he
    exact .inr ⟨g, cap, cur, rfl, hbs, hb.trans hg, rest⟩

theorem run_keep8 (w : World) (ty : TypeId) (base g n cap : Nat) (xs : List Int) (hown : w.ownsRow base 5 1 (.slice (some ⟨g, 0, none⟩) n cap) n (xs.map (Value.int .u8))) (ao : Option Addr) (m c : Nat) (rs : List Int) (hr : Row8 w ao m c rs) (hbytes : n + m ≤ 140737489403904) (hbase : base ≤ w.heap.size) :
    ∃ v' w', (Builtin.append_ #[22, 22] ty #[.slice (some ⟨g, 0, none⟩) n cap, .slice ao m c]).run Try.prog w = .ok v' w' ∧ w'.ownsRow base 5 1 v' (n + m) ((xs ++ rs).map (Value.int .u8)) ∧ w.grownBy w' (some g) ∧ w'.ownsRow base 5 1 (.slice (some ⟨g, 0, none⟩) n cap) n (xs.map (Value.int .u8)) := by
  obtain ⟨i0, hi, hz0, hz1, hz2⟩ := info_parts info5
  have hl := hr.length
  cases ao with
  | none =>
    obtain ⟨rfl, rfl⟩ := hr.none rfl
    have hrs : rs = [] := List.eq_nil_of_length_eq_zero hl
    subst hrs
    exact ⟨_, w, run_append_owned_none (P := Try.prog) (w := w) base 22 ty 5 i0 1 Try.underlying22 hi _ n _ hown, by simpa using hown, World.grownBy.refl _ _, hown⟩
  | some ad =>
    have hc := hr.cells ad rfl
    have hrl : (rs.map (Value.int .u8)).length = m := by simp [hl]
    have hxl := hown.1
    rw [Nat.mul_one] at hxl
    rw [List.map_append]
    rcases hown.2 with ⟨h0, _⟩ | ⟨g', cap', cur, he, hbg, hg, hnc, hcm, hcs, htake⟩
    · cases h0
    simp only [Value.slice.injEq, Option.some.injEq, Addr.mk.injEq, true_and, and_true] at he
    obtain ⟨rfl, rfl⟩ := he
    by_cases hroom : n + m ≤ cap
    · have hrun := run_append_room (P := Try.prog) w 22 ty 5 i0 Try.underlying22 hi g n cap cur hg ad m c (rs.map (Value.int .u8)) (by rw [hz1, hrl, Nat.mul_one]) hc (ints_oneCell _ _) hroom (by rw [hz1, hrl]; omega)
      rw [hz1, Nat.mul_one, hrl] at hrun
      rw [Nat.mul_one] at htake
      have hcl : cur.toList.length = cur.size := Array.length_toList
      have hsz : ((cur.toList.take n ++ rs.map (Value.int .u8) ++ cur.toList.drop (n + m)).toArray).size = cap * 1 := by
        simp only [List.size_toArray, List.length_append, List.length_take, List.length_drop, hrl]
        omega
      refine ⟨_, _, hrun, ⟨by rw [List.length_append, hxl, hrl, Nat.mul_one], .inr ⟨g, cap, _, rfl, hbg, setRow_heap w g cur _ 5 _ hg, hroom, hcm, hsz, ?_⟩⟩, ⟨rfl, rfl, rfl, by simp, fun k _ hk => setRow_other w g k _ (fun e => hk (by simp [e]))⟩, ⟨by rw [hxl, Nat.mul_one], .inr ⟨g, cap, _, rfl, hbg, setRow_heap w g cur _ 5 _ hg, hnc, hcm, hsz, ?_⟩⟩⟩
      · rw [htake, Nat.mul_one]
        exact List.take_left' (by rw [List.length_append, hxl, hrl])
      · rw [htake, Nat.mul_one, List.append_assoc]
        exact List.take_left' hxl
    · have hrun := run_append_grow (P := Try.prog) w 22 ty 5 i0 (.int .u8 0) Try.underlying22 hi hz0 ⟨g, 0, none⟩ n cap (xs.map (Value.int .u8)) (by rw [hz1, hxl, Nat.mul_one]) (hown.cells (g := g) rfl) ad m c (rs.map (Value.int .u8)) (by rw [hz1, hrl, Nat.mul_one]) hc (by omega) (by omega) (by have := next_far (need := n + m) (old := cap) (by omega); rw [hz2]; omega)
      refine ⟨_, _, hrun, made8 w base (n + m) _ _ _ (by simp) (by rw [List.length_append, hxl, hrl]) (grownCap_ge w (n + m) cap 5) (grownCap_le_maxLen w (n + m) cap 5 (by unfold maxLen; omega)) hbase, made_grown _ _ _ _, own_kept hown ?_⟩
      exact heap_alloc_old w.drew _ (Array.getElem?_eq_some_iff.1 hg).1

/-- append, at a plain region's list -/
theorem wpl_keep {w : World} {ops : Array Oper} {rest : List Oper} {o : Oper} {a : Act} {Q : Exit → Act → World → Prop} (hgd : o.guard = none) (sl x : Operand)
    (ho : o.op = .call { callee := .builtin .append, args := #[sl, x], argTypes := #[22, 22] })
    (base g n cap : Nat) (xs : List Int) (hs : a.eval sl = .slice (some ⟨g, 0, none⟩) n cap) (hown : w.ownsRow base 5 1 (.slice (some ⟨g, 0, none⟩) n cap) n (xs.map (Value.int .u8)))
    (ao : Option Addr) (m c : Nat) (rs : List Int) (hx : a.eval x = .slice ao m c) (hr : Row8 w ao m c rs)
    (hbytes : n + m ≤ 140737489403904) (hbase : base ≤ w.heap.size)
    (h : ∀ v' w', Hid (w'.ownsRow base 5 1 v' (n + m) ((xs ++ rs).map (Value.int .u8)) ∧ w.grownBy w' (some g) ∧ w'.ownsRow base 5 1 (.slice (some ⟨g, 0, none⟩) n cap) n (xs.map (Value.int .u8))) → wpList Try.prog ops Q rest (a.put o.dst v') w') :
    wpList Try.prog ops Q (o :: rest) a w := by
  refine wpList_plain hgd fun K hK => ?_
  obtain ⟨v', w', hrun, h1, h2, h3⟩ := run_keep8 w o.type base g n cap xs hown ao m c rs hr hbytes hbase
  unfold Oper.wp
  simp only [execOp, ho, resolve, invoke, builtin, Sem.run_bind, Sem.run_pure, Result.andThen_ok, List.map_toArray, List.map_cons, List.map_nil, hs, hx, hrun]
  exact hK _ _ (h v' w' ⟨h1, h2, h3⟩)

/-- append, at a step of a region that draws -/
theorem step_keep {w : World} {ops : Array Oper} {o : Oper} {a : Act} {K : Act → World → Prop} {Q : Exit → Act → World → Prop} {E : Prop} (hgd : o.guard = none) (sl x : Operand)
    (ho : o.op = .call { callee := .builtin .append, args := #[sl, x], argTypes := #[22, 22] })
    (base g n cap : Nat) (xs : List Int) (hs : a.eval sl = .slice (some ⟨g, 0, none⟩) n cap) (hown : w.ownsRow base 5 1 (.slice (some ⟨g, 0, none⟩) n cap) n (xs.map (Value.int .u8)))
    (ao : Option Addr) (m c : Nat) (rs : List Int) (hx : a.eval x = .slice ao m c) (hr : Row8 w ao m c rs)
    (hbytes : n + m ≤ 140737489403904) (hbase : base ≤ w.heap.size)
    (h : ∀ v' w', Hid (w'.ownsRow base 5 1 v' (n + m) ((xs ++ rs).map (Value.int .u8)) ∧ w.grownBy w' (some g) ∧ w'.ownsRow base 5 1 (.slice (some ⟨g, 0, none⟩) n cap) n (xs.map (Value.int .u8))) → K (a.put o.dst v') w') :
    if Region.wanted o (yielded ops a.tmps) = true then Oper.wp Try.prog o a w K Q else E := by
  rw [if_pos (show Region.wanted o (yielded ops a.tmps) = true by simp [Region.wanted, hgd])]
  obtain ⟨v', w', hrun, h1, h2, h3⟩ := run_keep8 w o.type base g n cap xs hown ao m c rs hr hbytes hbase
  unfold Oper.wp
  simp only [execOp, ho, resolve, invoke, builtin, Sem.run_bind, Sem.run_pure, Result.andThen_ok, List.map_toArray, List.map_cons, List.map_nil, hs, hx, hrun]
  exact h v' w' ⟨h1, h2, h3⟩
end Go.Proofs.Ytfdnhpmldnmncaa

namespace Go.Proofs.Ytfdnhpmldnmncaa
open Go.RowKit

theorem uint_at {zs rest : List Int} {a : Nat} {n : Int} (ha : a ≤ zs.length) (h0 : 0 ≤ n) (h1 : n ≤ 18446744073709551615) (h : zs.drop a = encF 9 n ++ rest) :
    uintAt zs a = (n, ((a + (encF 9 n).length : Nat) : Int), 0) := by
  have hb := uint_back (zs.take a) rest n h0 h1
  rw [List.append_assoc, ← h, List.take_append_drop, List.length_take, Nat.min_eq_left ha] at hb
  exact hb

theorem drop_more {zs x rest : List Int} {a : Nat} (h : zs.drop a = x ++ rest) : zs.drop (a + x.length) = rest := by
  rw [← List.drop_drop, h, List.drop_left]

theorem drop_le {zs x rest : List Int} {a : Nat} (h : zs.drop a = x ++ rest) (hx : 0 < x.length) : a + x.length ≤ zs.length := by
  have h1 := congrArg List.length h
  rw [List.length_drop, List.length_append] at h1
  omega

theorem text_at {zs rest : List Int} {a : Nat} {s : ByteArray} {most : Int} (hs : (s.size : Int) ≤ most) (hb : s.size ≤ 140737488351232) (h : zs.drop a = tx s ++ rest) :
    textOfU zs most (uintAt zs a) = (s, ((a + (tx s).length : Nat) : Int), 0) := by
  have hp := tx_pos s
  have hle := drop_le h hp
  have hlen : (tx s).length = (encF 9 (s.size : Int)).length + s.size := by unfold tx; rw [List.length_append, nums_len]
  have hd : zs.drop a = encF 9 (s.size : Int) ++ (nums s ++ rest) := by rw [h]; unfold tx; rw [List.append_assoc]
  have hu := uint_at (by omega) (by omega) (by omega) hd
  have hd2 := drop_more hd
  rw [hu]
  unfold textOfU
  rw [if_neg (by simp), if_neg (by omega), if_neg (by dsimp only; omega)]
  simp only [Int.toNat_natCast]
  rw [hd2, List.take_left' (nums_len s), nums_str]
  simp only [Prod.mk.injEq, true_and, and_true]
  omega

def CmpAt (zs : List Int) (d : Nat) (f : Nat → Nat → Except (Int × Int) (Vl × Nat × Nat)) : Prop := ∀ a t v rest, zs.drop a = wenc v ++ rest → okB d v = true → fitB v = true → t + wt v ≤ 2048 → f a t = .ok (v, a + (wenc v).length, t + wt v)

theorem arr_back {zs : List Int} {d : Nat} {f : Nat → Nat → Except (Int × Int) (Vl × Nat × Nat)} (hf : CmpAt zs d f) : ∀ (l acc : List Vl) (a t : Nat) (rest : List Int), zs.drop a = wencL false l [] ++ rest → okL d l = true → fitL l = true → t + wtL l ≤ 2048 →
    rdArr f l.length acc a t = .ok (acc ++ l, a + (wencL false l []).length, t + wtL l)
  | [], acc, a, t, rest, h, ho, hi, ht => by simp [rdArr, wencL_nil, wtL_nil]
  | v :: l, acc, a, t, rest, h, ho, hi, ht => by
    rw [wencL_cons] at h ⊢
    rw [okL_cons, Bool.and_eq_true] at ho
    rw [fitL_cons, Bool.and_eq_true] at hi
    rw [wtL_cons] at ht ⊢
    simp only [Bool.false_eq_true, if_false, List.nil_append, List.tail_nil] at h ⊢
    rw [List.append_assoc] at h
    have h1 := hf a t v _ h ho.1 hi.1 (by omega)
    have h2 := arr_back hf l (acc ++ [v]) (a + (wenc v).length) (t + wt v) rest (drop_more h) ho.2 hi.2 (by omega)
    simp only [List.length_cons, rdArr, h1, h2, List.append_assoc, List.singleton_append, List.length_append]
    simp only [Except.ok.injEq, Prod.mk.injEq, true_and]
    omega

theorem rec_back {zs : List Int} {d : Nat} {f : Nat → Nat → Except (Int × Int) (Vl × Nat × Nat)} (hf : CmpAt zs d f) : ∀ (l acc : List Vl) (ks ak : List ByteArray) (a t : Nat) (rest : List Int), ks.length = l.length → risingFrom ak.getLast? ks = true → zs.drop a = wencL true l ks ++ rest → okL d l = true → fitL l = true → t + wtL l + keysW ks ≤ 2048 →
    rdRec zs f l.length acc ak a t = .ok (acc ++ l, ak ++ ks, a + (wencL true l ks).length, t + wtL l + keysW ks)
  | [], acc, [], ak, a, t, rest, hk, hr, h, ho, hi, ht => by simp [rdRec, wencL_nil, wtL_nil, keysW]
  | [], acc, _ :: _, ak, a, t, rest, hk, hr, h, ho, hi, ht => by simp at hk
  | v :: l, acc, [], ak, a, t, rest, hk, hr, h, ho, hi, ht => by simp at hk
  | v :: l, acc, s :: ks, ak, a, t, rest, hk, hr, h, ho, hi, ht => by
    rw [wencL_cons] at h ⊢
    rw [okL_cons, Bool.and_eq_true] at ho
    rw [fitL_cons, Bool.and_eq_true] at hi
    rw [wtL_cons] at ht ⊢
    simp only [keysW] at ht ⊢
    simp only [risingFrom, Bool.and_eq_true, decide_eq_true_eq] at hr
    simp only [if_true, keyAt, List.tail_cons] at h ⊢
    rw [List.append_assoc, List.append_assoc] at h
    have hx := text_at (most := 32) (by omega) (by omega) h
    have hkey : rdKey zs ak.getLast? a t = .ok (s, a + (tx s).length, t + (1 + s.size)) := by
      unfold rdKey
      rw [hx]
      have hb : notBehind s ak.getLast? = false := by
        cases hg : ak.getLast? with
        | none => rfl
        | some p =>
          have h2 := hr.1.2
          rw [hg] at h2
          simp only at h2
          simp only [notBehind]
          rw [bl_not] at h2
          simpa using h2
      simp only [hb]
      rw [if_neg (by simp), if_neg (by simp), if_neg (by omega), Int.toNat_natCast]
    have h1 := hf (a + (tx s).length) (t + (1 + s.size)) v _ (drop_more h) ho.1 hi.1 (by omega)
    have h2 := rec_back hf l (acc ++ [v]) ks (ak ++ [s]) (a + (tx s).length + (wenc v).length) (t + (1 + s.size) + wt v) rest (by simpa using hk) (by simpa using hr.2) (drop_more (drop_more h)) ho.2 hi.2 (by omega)
    simp only [List.length_cons, rdRec, hkey, h1, h2, List.append_assoc, List.singleton_append, List.length_append]
    simp only [Except.ok.injEq, Prod.mk.injEq, true_and]
    omega

theorem head_at {zs r : List Int} {a : Nat} {c : Int} (h : zs.drop a = c :: r) : zs[a]? = some c ∧ zs.drop (a + 1) = r ∧ a < zs.length := by
  have hl : a < zs.length := by
    have h1 := congrArg List.length h
    rw [List.length_drop, List.length_cons] at h1
    omega
  rw [List.drop_eq_getElem_cons hl] at h
  simp only [List.cons.injEq] at h
  exact ⟨by rw [List.getElem?_eq_getElem hl, h.1], h.2, hl⟩

theorem len_wtL : ∀ l : List Vl, l.length ≤ wtL l
  | [] => by simp [wtL_nil]
  | x :: l => by
    have h1 := len_wtL l
    have h2 := wt_pos x
    rw [wtL_cons, List.length_cons]
    omega

theorem len_keysW : ∀ ks : List ByteArray, ks.length ≤ keysW ks
  | [] => by simp
  | s :: ks => by
    have h1 := len_keysW ks
    simp only [keysW, List.length_cons]
    omega

theorem cnt_back {zs rest : List Int} {q a t k n : Nat} (ha : a ≤ zs.length) (hk : 1 ≤ k) (hn : n * k + t ≤ 2048) (h : zs.drop a = encF 9 (n : Int) ++ rest) : rdCnt zs q a t k = .ok (n, a + (encF 9 (n : Int)).length) := by
  have hle : n ≤ 2048 := by
    have : n * 1 ≤ n * k := Nat.mul_le_mul_left n hk
    omega
  unfold rdCnt
  rw [uint_at ha (by omega) (by omega) h]
  rw [if_neg (by simp), if_neg ?_]
  · simp only [Int.toNat_natCast]
  · rw [Int.tdiv_eq_ediv_of_nonneg (by omega)]
    have h2 : (n : Int) ≤ (2048 - (t : Int)) / k := (Int.le_ediv_iff_mul_le (by omega)).2 (by
      have h4 : ((n * k : Nat) : Int) = (n : Int) * k := Int.natCast_mul n k
      omega)
    dsimp only
    omega

/-- a right value's bytes are read back -/
theorem rdV_back {zs : List Int} : ∀ d, CmpAt zs d (rdV zs d)
  | 0 => by
    intro a t v rest _ ho
    simp [okB] at ho
  | d + 1 => by
    intro a t v rest h ho hi ht
    cases v with
    | mk k n s l ks =>
      simp only [okB, Bool.and_eq_true] at ho
      simp only [fitB, Bool.and_eq_true, decide_eq_true_eq] at hi
      have hwt : wt (.mk k n s l ks) = 1 + s.size + keysW ks + wtL l := rfl
      rw [hwt] at ht ⊢
      rcases form_zero ho.1 with ⟨rfl, rfl, rfl, hl, rfl⟩ | ⟨rfl, hn, rfl, hl, rfl⟩ | ⟨rfl, rfl, hl, rfl⟩ | ⟨rfl, rfl, hl, rfl⟩ | ⟨rfl, rfl, rfl, rfl⟩ | ⟨rfl, rfl, rfl, hl, hr⟩
      · obtain rfl := List.eq_nil_of_length_eq_zero hl
        rw [wenc0] at h ⊢
        obtain ⟨hc, _, _⟩ := head_at h
        simp only [rdV, hc]
        rw [if_neg (by omega), if_neg (by omega)]
        simp [e0s, keysW, wtL_nil]
      · obtain rfl := List.eq_nil_of_length_eq_zero hl
        rw [wenc1] at h ⊢
        obtain ⟨hc, _, _⟩ := head_at h
        simp only [rdV, hc]
        rcases hn with rfl | rfl
        · rw [if_neg (by omega), if_neg (by omega)]
          simp [e0s, keysW, wtL_nil]
        · rw [if_neg (by omega), if_neg (by omega)]
          simp [e0s, keysW, wtL_nil]
      · obtain rfl := List.eq_nil_of_length_eq_zero hl
        rw [wenc2] at h ⊢
        obtain ⟨hc, hd, hlt⟩ := head_at (show zs.drop a = 3 :: (encF 9 (foldI n) ++ rest) by rw [h]; rfl)
        have fr := foldI_range hi.1.1.1.1
        have hu := uint_at (a := a + 1) (by omega) fr.1 fr.2 hd
        simp only [rdV, hc]
        rw [if_neg (by omega), if_neg (by omega)]
        simp only [rdNum, hu, intOfU, unfold_fold]
        simp [e0s, keysW, wtL_nil]
        omega
      · obtain rfl := List.eq_nil_of_length_eq_zero hl
        rw [wenc3] at h ⊢
        obtain ⟨hc, hd, hlt⟩ := head_at (show zs.drop a = 4 :: (tx s ++ rest) by rw [h]; rfl)
        have hu := text_at (a := a + 1) (most := 2048 - ((t + 1 : Nat) : Int)) (by omega) (by omega) hd
        simp only [rdV, hc]
        rw [if_neg (by omega), if_neg (by omega)]
        simp only [rdTxt, hu]
        simp [keysW, wtL_nil]
        omega
      · rw [wenc4] at h ⊢
        obtain ⟨hc, hd, hlt⟩ := head_at (show zs.drop a = 5 :: (encF 9 (l.length : Int) ++ (wencL false l [] ++ rest)) by rw [h]; simp)
        have hlw := len_wtL l
        have hcn := cnt_back (q := a) (a := a + 1) (t := t + 1) (k := 1) (by omega) (by omega) (by omega) hd
        have hrr := arr_back (rdV_back d) l [] (a + 1 + (encF 9 (l.length : Int)).length) (t + 1) rest (drop_more hd) ho.2 hi.2 (by omega)
        simp only [rdV, hc]
        rw [if_neg (by omega), if_neg (by omega)]
        simp only [rdAll, hcn, hrr]
        simp [e0s, keysW]
        omega
      · rw [wenc5] at h ⊢
        obtain ⟨hc, hd, hlt⟩ := head_at (show zs.drop a = 6 :: (encF 9 (l.length : Int) ++ (wencL true l ks ++ rest)) by rw [h]; simp)
        have hlw := len_wtL l
        have hkw := len_keysW ks
        have hcn := cnt_back (q := a) (a := a + 1) (t := t + 1) (k := 2) (by omega) (by omega) (by omega) hd
        have hrr := rec_back (rdV_back d) l [] ks [] (a + 1 + (encF 9 (l.length : Int)).length) (t + 1) rest hl (by simpa using hr) (drop_more hd) ho.2 hi.2 (by omega)
        simp only [rdV, hc]
        rw [if_neg (by omega), if_neg (by omega)]
        simp only [rdPairs, hcn, hrr]
        simp [e0s]
        omega
end Go.Proofs.Ytfdnhpmldnmncaa

namespace Go.Proofs.Ytfdnhpmldnmncaa
open Go.RowKit

theorem take_back {v : Vl} (hr : rightB v = true) (hf : fitB v = true) (ahead rest : List Int) : takeR (ahead ++ wenc v ++ rest) ahead.length = .ok (v, ahead.length + (wenc v).length) := by
  have hw := right_wt hr
  have hd : (ahead ++ wenc v ++ rest).drop ahead.length = wenc v ++ rest := by rw [List.append_assoc, List.drop_left]
  have hv := rdV_back 8 ahead.length 0 v rest hd hw.1 hf (by omega)
  unfold takeR
  rw [if_neg (by rw [List.length_append, List.length_append]; omega), Int.toNat_natCast, hv]
end Go.Proofs.Ytfdnhpmldnmncaa

namespace Go.Proofs.Ytfdnhpmldnmncaa
open Go.RowKit

/-- parts that are told by their bytes, one behind the other -/
theorem flat_split {α : Type} (f : α → List Int) (Ok : α → Prop) (hf : ∀ x y r1 r2, Ok x → Ok y → f x ++ r1 = f y ++ r2 → x = y ∧ r1 = r2) : ∀ (a b : List α) (r1 r2 : List Int), a.length = b.length → (∀ x ∈ a, Ok x) → (∀ x ∈ b, Ok x) → (a.map f).flatten ++ r1 = (b.map f).flatten ++ r2 → a = b ∧ r1 = r2
  | [], [], r1, r2, _, _, _, h => ⟨rfl, by simpa using h⟩
  | [], y :: b, _, _, hl, _, _, _ => by simp at hl
  | x :: a, [], _, _, hl, _, _, _ => by simp at hl
  | x :: a, y :: b, r1, r2, hl, ha, hb, h => by
    simp only [List.map_cons, List.flatten_cons, List.append_assoc] at h
    obtain ⟨e1, e2⟩ := hf x y _ _ (ha x List.mem_cons_self) (hb y List.mem_cons_self) h
    obtain ⟨e3, e4⟩ := flat_split f Ok hf a b r1 r2 (by simpa using hl) (fun z hz => ha z (List.mem_cons_of_mem _ hz)) (fun z hz => hb z (List.mem_cons_of_mem _ hz)) e2
    exact ⟨by rw [e1, e3], e4⟩

theorem fn_split (x y : Fn) (r1 r2 : List Int) (h : encFn x ++ r1 = encFn y ++ r2) : x = y ∧ r1 = r2 := by
  obtain ⟨p, l, s, t⟩ := x
  obtain ⟨p', l', s', t'⟩ := y
  unfold encFn at h
  dsimp only at h
  simp only [List.append_assoc] at h
  obtain ⟨e1, h1⟩ := encF_split 9 _ _ _ _ h
  obtain ⟨e2, h2⟩ := encF_split 9 _ _ _ _ h1
  obtain ⟨e3, h3⟩ := encF_split 9 _ _ _ _ h2
  have h4 : tx t ++ r1 = tx t' ++ r2 := by unfold tx; simpa only [List.append_assoc] using h3
  obtain ⟨e5, h5⟩ := tx_split t t' r1 r2 h4
  exact ⟨by rw [e1, e2, e3, e5], h5⟩

theorem ex_split (x y : Ex) (r1 r2 : List Int) (h : encEx x ++ r1 = encEx y ++ r2) : x = y ∧ r1 = r2 := by
  obtain ⟨t, f⟩ := x
  obtain ⟨t', f'⟩ := y
  unfold encEx at h
  dsimp only at h
  have h4 : tx t ++ (encF 9 f ++ r1) = tx t' ++ (encF 9 f' ++ r2) := by unfold tx; simpa only [List.append_assoc] using h
  obtain ⟨e1, h1⟩ := tx_split t t' _ _ h4
  obtain ⟨e2, h2⟩ := encF_split 9 _ _ _ _ h1
  exact ⟨by rw [e1, e2], h2⟩

/-- a section's body tells its parts -/
theorem body_split {α : Type} (f : α → List Int) (Ok : α → Prop) (hf : ∀ x y r1 r2, Ok x → Ok y → f x ++ r1 = f y ++ r2 → x = y ∧ r1 = r2) (a b : List α) (ha : ∀ x ∈ a, Ok x) (hb : ∀ x ∈ b, Ok x) (h : bodyM (a.map f) = bodyM (b.map f)) : a = b := by
  unfold bodyM at h
  obtain ⟨h1, h2⟩ := encF_split 9 _ _ _ _ h
  have hl : a.length = b.length := by rw [List.length_map, List.length_map] at h1; omega
  exact (flat_split f Ok hf a b [] [] hl ha hb (by simpa using h2)).1

theorem sec_split (i : Nat) (L K : List (List Int)) (r1 r2 : List Int) (h : secM i L ++ r1 = secM i K ++ r2) : bodyM L = bodyM K ∧ r1 = r2 := by
  unfold secM at h
  simp only [List.cons_append, List.cons.injEq, true_and, List.append_assoc] at h
  obtain ⟨h1, h2⟩ := encF_split 9 _ _ _ _ h
  exact List.append_inj h2 (by omega)

theorem encM_split {a b : Md} (ha : formedB a = true) (hb : formedB b = true) (r1 r2 : List Int) (h : encM a ++ r1 = encM b ++ r2) : a = b ∧ r1 = r2 := by
  unfold encM at h
  simp only [outM, List.append_assoc] at h
  have h0 := List.append_cancel_left h
  obtain ⟨e1, h1⟩ := sec_split 0 _ _ _ _ h0
  obtain ⟨e2, h2⟩ := sec_split 1 _ _ _ _ h1
  obtain ⟨e3, h3⟩ := sec_split 2 _ _ _ _ h2
  obtain ⟨_, _, _, a4, _, _⟩ := formed_parts ha
  obtain ⟨_, _, _, b4, _, _⟩ := formed_parts hb
  have x1 : a.cs = b.cs := body_split wenc (fun v => rightB v = true) (fun x y r1 r2 hx hy hh => wenc_split x y 8 8 r1 r2 (right_wt hx).1 (right_wt hy).1 hh) _ _ a4 b4 (by simpa [partsM] using e1)
  have x2 : a.fs = b.fs := body_split encFn (fun _ => True) (fun x y r1 r2 _ _ hh => fn_split x y r1 r2 hh) _ _ (fun _ _ => trivial) (fun _ _ => trivial) (by simpa [partsM] using e2)
  have x3 : a.xs = b.xs := body_split encEx (fun _ => True) (fun x y r1 r2 _ _ hh => ex_split x y r1 r2 hh) _ _ (fun _ _ => trivial) (fun _ _ => trivial) (by simpa [partsM] using e3)
  refine ⟨?_, h3⟩
  cases a
  cases b
  simp_all

theorem encM_begins {a b : Md} (ha : formedB a = true) (hb : formedB b = true) (h : (encM b).take (encM a).length = encM a) : a = b := by
  have e : encM a ++ (encM b).drop (encM a).length = encM b ++ [] := by
    rw [List.append_nil]
    have q := List.take_append_drop (encM a).length (encM b)
    rw [h] at q
    exact q
  exact (encM_split ha hb _ _ e).1
end Go.Proofs.Ytfdnhpmldnmncaa

namespace Go.Proofs.Ytfdnhpmldnmncaa
open Go.RowKit

theorem no_back {bs rest : List Int} {a : Nat} {n most above : Int} (ha : a ≤ bs.length) (h0 : 0 ≤ n) (h1 : n ≤ most) (h2 : most ≤ 65536) (h : bs.drop a = encF 9 n ++ rest) : rdNo bs a most above = .ok (n, a + (encF 9 n).length) := by
  unfold rdNo
  rw [uint_at ha h0 (by omega) h, if_neg (by simp), if_neg (by dsimp only; omega), Int.toNat_natCast]

theorem txt_back {bs rest : List Int} {a : Nat} {t : ByteArray} {most : Int} (h1 : (t.size : Int) ≤ most) (h2 : most ≤ 65536) (h : bs.drop a = tx t ++ rest) : rdTx bs a most = .ok (t, a + (tx t).length) := by
  unfold rdTx
  rw [text_at h1 (by omega) h, if_neg (by simp), if_neg (by simp), Int.toNat_natCast]

theorem takeR_at {bs rest : List Int} {a : Nat} {v : Vl} (hr : rightB v = true) (hf : fitB v = true) (ha : a ≤ bs.length) (h : bs.drop a = wenc v ++ rest) : takeR bs a = .ok (v, a + (wenc v).length) := by
  have hb := take_back hr hf (bs.take a) rest
  rw [List.append_assoc, ← h, List.take_append_drop, List.length_take, Nat.min_eq_left ha] at hb
  exact hb

theorem drop_in {bs x rest : List Int} {a : Nat} (ha : a ≤ bs.length) (h : bs.drop a = x ++ rest) : a + x.length ≤ bs.length := by
  have h1 := congrArg List.length h
  rw [List.length_drop, List.length_append] at h1
  omega

theorem cs_back {bs : List Int} (fs : List Fn) (xs : List Ex) : ∀ (l acc : List Vl) (a : Nat), a ≤ bs.length → bs.drop a = (l.map wenc).flatten → (∀ v ∈ l, rightB v = true ∧ fitB v = true) →
    rdN (rdC bs) l.length ⟨acc, fs, xs⟩ a = .ok (⟨acc ++ l, fs, xs⟩, bs.length)
  | [], acc, a, ha, h, _ => by
    have h1 := congrArg List.length h
    rw [List.length_drop] at h1
    simp at h1
    simp only [List.length_nil, rdN, List.append_nil, Except.ok.injEq, Prod.mk.injEq, true_and]
    omega
  | v :: l, acc, a, ha, h, hv => by
    rw [List.map_cons, List.flatten_cons] at h
    have h1 : rdC bs ⟨acc, fs, xs⟩ a = .ok (⟨acc ++ [v], fs, xs⟩, a + (wenc v).length) := by
      unfold rdC
      rw [takeR_at (hv v List.mem_cons_self).1 (hv v List.mem_cons_self).2 ha h]
    have h2 := cs_back fs xs l (acc ++ [v]) (a + (wenc v).length) (drop_in ha h) (drop_more h) (fun x hx => hv x (List.mem_cons_of_mem _ hx))
    simp only [List.length_cons, rdN, h1, h2, List.append_assoc, List.singleton_append]

theorem fs_back {bs : List Int} (cs : List Vl) (xs : List Ex) : ∀ (l acc : List Fn) (a : Nat), a ≤ bs.length → bs.drop a = (l.map encFn).flatten → (∀ f ∈ l, fnB f = true) →
    rdN (rdF bs) l.length ⟨cs, acc, xs⟩ a = .ok (⟨cs, acc ++ l, xs⟩, bs.length)
  | [], acc, a, ha, h, _ => by
    have h1 := congrArg List.length h
    rw [List.length_drop] at h1
    simp at h1
    simp only [List.length_nil, rdN, List.append_nil, Except.ok.injEq, Prod.mk.injEq, true_and]
    omega
  | (p, n, s, t) :: l, acc, a, ha, h, hv => by
    rw [List.map_cons, List.flatten_cons] at h
    obtain ⟨p0, p1, p2, p3, p4, p5, p6⟩ := fn_parts (hv _ List.mem_cons_self)
    have e : encFn (p, n, s, t) ++ (l.map encFn).flatten = encF 9 p ++ (encF 9 n ++ (encF 9 s ++ (tx t ++ (l.map encFn).flatten))) := by
      unfold encFn tx
      simp only [List.append_assoc]
    have hl : (encFn (p, n, s, t)).length = (encF 9 p).length + (encF 9 n).length + (encF 9 s).length + (tx t).length := by
      unfold encFn tx
      simp only [List.length_append]
    have h' := h
    rw [e] at h'
    have g1 := drop_in ha h'
    have d1 := drop_more h'
    have g2 := drop_in g1 d1
    have d2 := drop_more d1
    have g3 := drop_in g2 d2
    have d3 := drop_more d2
    have h1 : rdF bs ⟨cs, acc, xs⟩ a = .ok (⟨cs, acc ++ [(p, n, s, t)], xs⟩, a + (encFn (p, n, s, t)).length) := by
      unfold rdF
      rw [no_back ha p0 p1 (by omega) h']
      dsimp only
      rw [no_back g1 (by omega) p3 (by omega) d1]
      dsimp only
      rw [if_neg (by omega), no_back g2 p4 p5 (by omega) d2]
      dsimp only
      rw [txt_back (by omega) (by omega) d3, hl]
      simp only [Except.ok.injEq, Prod.mk.injEq, true_and]
      omega
    have h2 := fs_back cs xs l (acc ++ [(p, n, s, t)]) (a + (encFn (p, n, s, t)).length) (drop_in ha h) (drop_more h) (fun x hx => hv x (List.mem_cons_of_mem _ hx))
    simp only [List.length_cons, rdN, h1, h2, List.append_assoc, List.singleton_append]

theorem xs_back {bs : List Int} (cs : List Vl) (fs : List Fn) (hn : fs.length ≤ 24) : ∀ (l acc : List Ex) (a : Nat), a ≤ bs.length → bs.drop a = (l.map encEx).flatten → exsB fs.length (lastN ⟨cs, fs, acc⟩) l = true → (∀ x ∈ l, x.1.size ≤ 20) →
    rdN (rdX bs) l.length ⟨cs, fs, acc⟩ a = .ok (⟨cs, fs, acc ++ l⟩, bs.length)
  | [], acc, a, ha, h, _, _ => by
    have h1 := congrArg List.length h
    rw [List.length_drop] at h1
    simp at h1
    simp only [List.length_nil, rdN, List.append_nil, Except.ok.injEq, Prod.mk.injEq, true_and]
    omega
  | (t, f) :: l, acc, a, ha, h, hv, hs => by
    rw [List.map_cons, List.flatten_cons] at h
    rw [exsB, Bool.and_eq_true] at hv
    obtain ⟨hx, hr⟩ := hv
    unfold exB at hx
    simp only [Bool.and_eq_true, decide_eq_true_eq] at hx
    obtain ⟨⟨⟨x1, x2⟩, x3⟩, x4⟩ := hx
    have hsz := hs _ List.mem_cons_self
    dsimp only at hsz
    have e : encEx (t, f) ++ (l.map encEx).flatten = tx t ++ (encF 9 f ++ (l.map encEx).flatten) := by
      unfold encEx tx
      simp only [List.append_assoc]
    have hl : (encEx (t, f)).length = (tx t).length + (encF 9 f).length := by
      unfold encEx tx
      simp only [List.length_append]
    have h' := h
    rw [e] at h'
    have g1 := drop_in ha h'
    have d1 := drop_more h'
    have h1 : rdX bs ⟨cs, fs, acc⟩ a = .ok (⟨cs, fs, acc ++ [(t, f)]⟩, a + (encEx (t, f)).length) := by
      unfold rdX
      rw [txt_back (by omega) (by omega) h']
      dsimp only
      rw [x1, x2, if_neg (by simp), no_back g1 x3 (by omega) (by omega) d1, hl]
      simp only [Except.ok.injEq, Prod.mk.injEq, true_and]
      omega
    have hr' : exsB fs.length (lastN ⟨cs, fs, acc ++ [(t, f)]⟩) l = true := by
      unfold lastN
      dsimp only
      rw [List.getLast?_concat]
      exact hr
    have h2 := xs_back cs fs hn l (acc ++ [(t, f)]) (a + (encEx (t, f)).length) (drop_in ha h) (drop_more h) hr' (fun x hx => hs x (List.mem_cons_of_mem _ hx))
    simp only [List.length_cons, rdN, h1, h2, List.append_assoc, List.singleton_append]

/-- a section is read back -/
theorem s_back {zs rest : List Int} (i : Nat) (L : List (List Int)) (m m' : Md) (a : Nat) (h : zs.drop a = secM i L ++ rest) (hz : zs.length ≤ 65536) (hn : (L.length : Int) ≤ mostM i)
    (hP : ∀ (bs : List Int) (a : Nat), a ≤ bs.length → bs.drop a = L.flatten → rdN (rdOne i bs) L.length m a = .ok (m', bs.length)) : rdS zs i m a = .ok (m', a + (secM i L).length) := by
  have hm : mostM i ≤ 65536 := by unfold mostM; split <;> omega
  have h' : zs.drop a = ((i : Int) + 1) :: (encF 9 ((bodyM L).length : Int) ++ (bodyM L ++ rest)) := by
    rw [h]; unfold secM; rw [List.cons_append, List.append_assoc]
  obtain ⟨z0, z1, z2⟩ := head_at h'
  have d1 := drop_more z1
  have g1 := drop_in (x := encF 9 ((bodyM L).length : Int)) (by omega) z1
  have g2 := drop_in g1 d1
  obtain ⟨b, hb⟩ : ∃ b, a + 1 + (encF 9 ((bodyM L).length : Int)).length = b := ⟨_, rfl⟩
  have hu := uint_at (a := a + 1) (by omega) (by omega) (by omega) z1
  rw [hb] at hu g1 g2 d1
  have hu' : uintAt zs ((a : Int) + 1) = (((bodyM L).length : Int), (b : Int), 0) := by rw [← hu]; rfl
  unfold rdS rdO
  rw [if_neg (by simpa using z0), hu', if_neg (by dsimp only; omega)]
  dsimp only
  rw [show ((b : Int)).toNat = b by omega, show ((b : Int) + ((bodyM L).length : Int)).toNat = b + (bodyM L).length by omega]
  have hbl : (zs.take (b + (bodyM L).length)).length = b + (bodyM L).length := by rw [List.length_take]; omega
  have hbd : (zs.take (b + (bodyM L).length)).drop b = encF 9 (L.length : Int) ++ L.flatten := by
    rw [List.drop_take, d1, Nat.add_sub_cancel_left, List.take_left]
    rfl
  unfold rdP
  rw [no_back (by omega) (by omega) hn hm hbd]
  dsimp only
  rw [Int.toNat_natCast, hP _ _ (drop_in (by omega) hbd) (drop_more hbd)]
  dsimp only
  rw [if_neg (Nat.lt_irrefl _), hbl]
  simp only [Except.ok.injEq, Prod.mk.injEq, true_and]
  unfold secM
  rw [List.length_cons, List.length_append]
  omega

theorem decM_back {m : Md} (hr : rightM m = true) (hf : ∀ v ∈ m.cs, fitB v = true) : decM (encM m) = .ok m := by
  have hr' := hr
  unfold rightM at hr'
  simp only [Bool.and_eq_true, decide_eq_true_eq] at hr'
  obtain ⟨hF, hlen⟩ := hr'
  obtain ⟨p1, p2, p3, p4, p5, p6⟩ := formed_parts hF
  have px : exsB m.fs.length ⟨#[]⟩ m.xs = true := by
    unfold formedB at hF
    simp only [Bool.and_eq_true] at hF
    exact hF.2
  obtain ⟨cs, fs, xs⟩ := m
  dsimp only at *
  obtain ⟨zs, hzs⟩ : ∃ zs, encM ⟨cs, fs, xs⟩ = zs := ⟨_, rfl⟩
  rw [hzs] at hlen ⊢
  have hd : zs = headM ++ (secM 0 (cs.map wenc) ++ (secM 1 (fs.map encFn) ++ (secM 2 (xs.map encEx) ++ []))) := by
    rw [← hzs]
    unfold encM
    simp only [outM, List.append_assoc, List.append_nil]
    rfl
  have h4 : headM.length = 4 := rfl
  have d0 : zs.drop 4 = secM 0 (cs.map wenc) ++ (secM 1 (fs.map encFn) ++ (secM 2 (xs.map encEx) ++ [])) := by
    rw [hd, ← h4, List.drop_left]
  have s0 := s_back (zs := zs) 0 (cs.map wenc) ⟨[], [], []⟩ ⟨cs, [], []⟩ 4 d0 hlen (by rw [List.length_map]; unfold mostM; rw [if_pos rfl]; omega) (fun bs a ha h => by
    unfold rdOne
    rw [if_pos rfl, List.length_map, cs_back [] [] cs [] a ha h (fun v hv => ⟨p4 v hv, hf v hv⟩)]
    rfl)
  have d1 := drop_more d0
  have s1 := s_back (zs := zs) 1 (fs.map encFn) ⟨cs, [], []⟩ ⟨cs, fs, []⟩ _ d1 hlen (by rw [List.length_map]; unfold mostM; rw [if_neg (by omega)]; omega) (fun bs a ha h => by
    unfold rdOne
    rw [if_neg (by omega), if_pos rfl, List.length_map, fs_back cs [] fs [] a ha h p5]
    rfl)
  have d2 := drop_more d1
  have s2 := s_back (zs := zs) 2 (xs.map encEx) ⟨cs, fs, []⟩ ⟨cs, fs, xs⟩ _ d2 hlen (by rw [List.length_map]; unfold mostM; rw [if_neg (by omega)]; omega) (fun bs a ha h => by
    unfold rdOne
    rw [if_neg (by omega), if_neg (by omega), List.length_map, xs_back cs fs p2 xs [] a ha h px (fun x hx => (p6 x hx).1)]
    rfl)
  have hl : zs.length = 4 + (secM 0 (cs.map wenc)).length + (secM 1 (fs.map encFn)).length + (secM 2 (xs.map encEx)).length := by
    rw [hd]
    simp only [List.length_append, List.length_nil]
    omega
  unfold decM
  rw [if_neg (by omega), if_neg (by rw [hd]; simp [headM])]
  simp only [rdAllM, s0, s1, s2, Nat.zero_add]
  rw [if_neg (by omega)]

/-- bytes that others stand behind -/
theorem decM_rest {m k : Md} {rest : List Int} (hr : rightM m = true) (hs : ∀ c ∈ encM m ++ rest, 0 ≤ c ∧ c ≤ 255) (h : decM (encM m ++ rest) = .ok k) : rest = [] := by
  obtain ⟨k1, k2, _⟩ := decM_sound hs h
  unfold rightM at hr k1
  rw [Bool.and_eq_true] at hr k1
  exact (encM_split k1.1 hr.1 [] rest (by rw [List.append_nil]; exact k2)).2.symm

/-- bytes whose end lacks -/
theorem decM_cut {m k : Md} {c : Nat} (hr : rightM m = true) (hs : ∀ c ∈ encM m, 0 ≤ c ∧ c ≤ 255) (hc : c < (encM m).length) : decM ((encM m).take c) ≠ .ok k := by
  intro h
  obtain ⟨k1, k2, _⟩ := decM_sound (fun x hx => hs x (List.mem_of_mem_take hx)) h
  unfold rightM at hr k1
  rw [Bool.and_eq_true] at hr k1
  have e := (encM_split k1.1 hr.1 ((encM m).drop c) [] (by rw [k2, List.take_append_drop, List.append_nil])).2
  have := congrArg List.length e
  rw [List.length_drop] at this
  simp at this
  omega
end Go.Proofs.Ytfdnhpmldnmncaa
