/-
  The walks of start and take of a state's bytes; condition: the form's own reach.
  A row of entries that is being made; no conditions.
  The walk of a state's Decode; condition: the form's own reach.
  The walk of shown: what every program tells; no conditions.
-/
import Derived.Test.YtjkladljhbcelaaS2
namespace Go.Proofs.Ytjkladljhbcelaa
open Go.RowKit

def ResSt (r : Except (Int × Int) (Nat × Nat)) (e : Ending) : Prop :=
  match r with
  | .error p => e = .returned (.tuple #[.int .u64 0, .int .i64 p.2, .int .i64 p.1])
  | .ok (n, a) => e = .returned (.tuple #[.int .u64 (n : Int), .int .i64 (a : Int), .int .i64 0])

theorem map8_inj : ∀ (xs ys : List Int), (∀ n ∈ xs, 0 ≤ n ∧ n ≤ 255) → (∀ n ∈ ys, 0 ≤ n ∧ n ≤ 255) → xs.map (fun n => UInt8.ofNat n.toNat) = ys.map (fun n => UInt8.ofNat n.toNat) → xs = ys
  | [], [], _, _, _ => rfl
  | [], y :: ys, _, _, h => by simp at h
  | x :: xs, [], _, _, h => by simp at h
  | x :: xs, y :: ys, hx, hy, h => by
    simp only [List.map_cons, List.cons.injEq] at h
    have h1 := hx x List.mem_cons_self
    have h2 := hy y List.mem_cons_self
    have h3 := congrArg UInt8.toNat h.1
    simp only [UInt8.toNat_ofNat'] at h3
    rw [map8_inj xs ys (fun n hn => hx n (List.mem_cons_of_mem _ hn)) (fun n hn => hy n (List.mem_cons_of_mem _ hn)) h.2]
    congr 1
    omega

theorem str_head (xs : List Int) (hs : ∀ n ∈ xs, 0 ≤ n ∧ n ≤ 255) : ((strOfNums xs).toList == [83, 83, 84, 49]) = decide (xs = headE) := by
  have e : (strOfNums xs).toList = xs.map (fun n => UInt8.ofNat n.toNat) := by rw [ByteArray.toList_eq]; simp [strOfNums]
  have e2 : ([83, 83, 84, 49] : List UInt8) = headE.map (fun n => UInt8.ofNat n.toNat) := by decide
  rw [e, e2]
  by_cases h : xs = headE
  · rw [decide_eq_true h, h]; exact beq_self_eq_true _
  · rw [decide_eq_false h]
    exact beq_eq_false_iff_ne.2 (fun e => h (map8_inj _ _ hs (by intro n hn; simp [headE] at hn; omega) e))

set_option maxRecDepth 100000 in
set_option maxHeartbeats 400000 in
theorem start_any (ao : Option Addr) (len cap : Nat) (zs : List Int) (w : World) (hz : Row8 w ao len cap zs) (hm : cap ≤ maxLen) :
    Calls Try.prog 10 #[.slice ao len cap] w fun e w' => ResSt (startE zs) e ∧ w' = w := by
  have hlen := hz.length
  have hle := hz.le
  have hsm := hz.small
  by_cases h4 : len < 4
  · have hT : startE zs = .error (71, 0) := by
      unfold startE
      rw [if_pos]
      intro e
      have := congrArg List.length e
      rw [List.length_take] at this
      simp [headE] at this
      omega
    rw [hT]
    have i1 : (len : Int) < 4 := by omega
    go_enter Try.func10, Try.ntmps10
    go_wp2_with fail
    go_ret3
    exact ⟨rfl, rfl⟩
  have i1 : ¬ (len : Int) < 4 := by omega
  obtain ⟨b, off, rfl, hc⟩ := hz.at (by omega)
  have CV : Sem.run Try.prog (convert 22 9 (.slice (some ⟨b, off, none⟩) 4 cap)) w = .ok (.string (strOfNums (zs.take 4))) w := by
    have := conv_row (w := w) hlen hc 0 4 cap (by omega) 0
    rw [Nat.add_zero, List.drop_zero] at this
    exact this
  have CU := hide (uint_any (some ⟨b, off, none⟩) len cap 4 zs w hz hm)
  have hST := str_head (zs.take 4) (fun n hn => hsm n (List.mem_of_mem_take hn))
  obtain ⟨T, hTT⟩ : ∃ T, strOfNums (zs.take 4) = T := ⟨_, rfl⟩
  rw [hTT] at CV hST
  have i2 : (4 : Int) ≤ (cap : Int) := by omega
  by_cases hh : zs.take 4 = headE
  · rw [decide_eq_true hh] at hST
    have hS2 : (!T.toList == [83, 83, 84, 49]) = false := by rw [hST]; rfl
    have hT : startE zs = if (uintAt zs 4).2.2 ≠ 0 then .error (71, 4) else if 128 < (uintAt zs 4).1 then .error (70, 4) else .ok ((uintAt zs 4).1.toNat, (uintAt zs 4).2.1.toNat) := by unfold startE; rw [if_neg (by simpa using hh)]
    have hf := uint_form zs 4 hsm
    have hx := uint_max zs 4 hsm
    rw [hT]
    clear hT hh hTT hz hc hsm
    generalize uintAt zs 4 = r at *
    obtain ⟨n, nx, er⟩ := r
    dsimp only at *
    by_cases he : er = 0
    · subst he
      obtain ⟨hn0, hnx⟩ : 0 ≤ n ∧ 0 ≤ nx := by obtain ⟨q, k, _, _, _, _, hnx, _, hn0⟩ := hf rfl; omega
      rw [if_neg (by simp)]
      by_cases hb : 128 < n
      · rw [if_pos hb]
        clear hf
        go_enter Try.func10, Try.ntmps10
        go_wp2_with fail
        refine (unhide CU).mono ?_
        rintro e u ⟨rfl, rfl⟩
        go_wp2_with fail
        go_ret3
        exact ⟨rfl, rfl⟩
      · rw [if_neg hb]
        clear hf
        go_enter Try.func10, Try.ntmps10
        go_wp2_with fail
        refine (unhide CU).mono ?_
        rintro e u ⟨rfl, rfl⟩
        go_wp2_with fail
        go_ret3
        refine ⟨?_, rfl⟩
        unfold ResSt
        dsimp only
        rw [Int.toNat_of_nonneg hn0, Int.toNat_of_nonneg hnx]
        rfl
    · have k1 : ¬ er = 0 := he
      rw [if_pos (by simpa using he)]
      go_enter Try.func10, Try.ntmps10
      go_wp2_with fail
      refine (unhide CU).mono ?_
      rintro e u ⟨rfl, rfl⟩
      go_wp2_with fail
      go_ret3
      exact ⟨rfl, rfl⟩
  · rw [decide_eq_false hh] at hST
    have hS2 : (!T.toList == [83, 83, 84, 49]) = true := by rw [hST]; rfl
    have hT : startE zs = .error (71, 0) := by unfold startE; rw [if_pos hh]
    rw [hT]
    go_enter Try.func10, Try.ntmps10
    go_wp2_with fail
    go_ret3
    exact ⟨rfl, rfl⟩

theorem six_set (w : World) (g : Nat) (T : TypeId) (c0 c1 c2 c3 c4 c5 x0 x1 x2 x3 x4 x5 : Value) (h : w.heap[g]? = some (.cells #[c0, c1, c2, c3, c4, c5] T (0, 0))) :
    ((((((w.setCell ⟨g, 0, none⟩ x0).setCell ⟨g, 1, none⟩ x1).setCell ⟨g, 2, none⟩ x2).setCell ⟨g, 3, none⟩ x3).setCell ⟨g, 4, none⟩ x4).setCell ⟨g, 5, none⟩ x5).heap[g]? = some (.cells #[x0, x1, x2, x3, x4, x5] T (0, 0)) ∧
    (∀ B a, Below B a w → B ≤ g → Below B a ((((((w.setCell ⟨g, 0, none⟩ x0).setCell ⟨g, 1, none⟩ x1).setCell ⟨g, 2, none⟩ x2).setCell ⟨g, 3, none⟩ x3).setCell ⟨g, 4, none⟩ x4).setCell ⟨g, 5, none⟩ x5)) ∧
    (∀ c, c ≠ g → ((((((w.setCell ⟨g, 0, none⟩ x0).setCell ⟨g, 1, none⟩ x1).setCell ⟨g, 2, none⟩ x2).setCell ⟨g, 3, none⟩ x3).setCell ⟨g, 4, none⟩ x4).setCell ⟨g, 5, none⟩ x5).heap[c]? = w.heap[c]?) ∧
    ((((((w.setCell ⟨g, 0, none⟩ x0).setCell ⟨g, 1, none⟩ x1).setCell ⟨g, 2, none⟩ x2).setCell ⟨g, 3, none⟩ x3).setCell ⟨g, 4, none⟩ x4).setCell ⟨g, 5, none⟩ x5).heap.size = w.heap.size := by
  have h1 := heap_setCell_same w g 0 _ T x0 h
  have h2 := heap_setCell_same _ g 1 _ T x1 h1
  have h3 := heap_setCell_same _ g 2 _ T x2 h2
  have h4 := heap_setCell_same _ g 3 _ T x3 h3
  have h5 := heap_setCell_same _ g 4 _ T x4 h4
  have h6 := heap_setCell_same _ g 5 _ T x5 h5
  refine ⟨by rw [h6]; rfl, fun B a hb hg => (((((hb.setCell (p := ⟨g, 0, none⟩) hg x0).setCell (p := ⟨g, 1, none⟩) hg x1).setCell (p := ⟨g, 2, none⟩) hg x2).setCell (p := ⟨g, 3, none⟩) hg x3).setCell (p := ⟨g, 4, none⟩) hg x4).setCell (p := ⟨g, 5, none⟩) hg x5, fun c hc => ?_, by simp⟩
  rw [heap_setCell_other _ _ _ _ hc, heap_setCell_other _ _ _ _ hc, heap_setCell_other _ _ _ _ hc, heap_setCell_other _ _ _ _ hc, heap_setCell_other _ _ _ _ hc, heap_setCell_other _ _ _ _ hc]

theorem take_codeS {zs : List Int} {p : Int} {e : Int × Int} (h : takeR zs p = .error e) : e.1 = 41 ∨ e.1 = 42 := by
  unfold takeR at h
  split at h
  · cases h; exact Or.inl rfl
  · cases hv : rdV zs 8 p.toNat 0 with
    | error q => rw [hv] at h; cases h; exact code_pos 8 _ _ _ hv
    | ok q => rw [hv] at h; cases h

def ResTE (w : World) (r : Except (Int × Int) (En × Nat)) (e : Ending) (w' : World) : Prop :=
  match r with
  | .error p => e = .returned (.tuple #[.agg #[.string ⟨#[]⟩, .int .i64 0, .int .i64 0, .string ⟨#[]⟩, .slice none 0 0, .slice none 0 0], .int .i64 p.2, .int .i64 p.1]) ∧ Below w.heap.size w w'
  | .ok ((s, v), n) => ∃ (x0 x1 : Int) (x2 : ByteArray) (al ak : Option Addr) (ll cl m ck : Nat), e = .returned (.tuple #[.agg #[.string s, .int .i64 x0, .int .i64 x1, .string x2, .slice al ll cl, .slice ak m ck], .int .i64 n, .int .i64 0]) ∧ IsQ w' (fun b => w.heap.size ≤ b ∧ b < w'.heap.size) v (.agg #[.int .i64 x0, .int .i64 x1, .string x2, .slice al ll cl, .slice ak m ck]) ∧ Below w.heap.size w w'

set_option maxRecDepth 100000 in
set_option maxHeartbeats 1000000 in
theorem takeE_any (ao : Option Addr) (len cap : Nat) (zs : List Int) (at_ : Nat) (p : ByteArray) (w : World) (hz : Row8 w ao len cap zs) (hm : cap ≤ maxLen) :
    Calls Try.prog 11 #[.slice ao len cap, .int .i64 (at_ : Int), .string p] w fun e w' => ResTE w (takeE zs at_ p) e w' := by
  obtain ⟨g, hg⟩ : ∃ g, w.heap.size = g := ⟨_, rfl⟩
  have BX := Box6.mk' w (.string ⟨#[]⟩) (.int .i64 0) (.int .i64 0) (.string ⟨#[]⟩) (.slice none 0 0) (.slice none 0 0)
  have CT := hide (text_any ao len cap (at_ : Int) 32 zs _ (hz.later BX.below) (by unfold maxLen at hm; omega) (by omega))
  have hf := fun h => text_form zs 32 at_ hz.small h
  have HZ := hide hz
  have HB := hide BX
  unfold takeE
  generalize textOfU zs 32 (uintAt zs at_) = r at *
  obtain ⟨k, nx, er⟩ := r
  dsimp only at *
  by_cases he : er ≠ 0
  · rw [if_pos he]
    have k1 : ¬ er = 0 := he
    obtain ⟨c0, c1, c2, c3, c4, c5⟩ := row_cell6 (by have := BX.row; rw [hg] at this; exact this)
    clear BX hz hf
    go_enter Try.func11, Try.ntmps11
    go_wp2_with fail
    refine (unhide CT).mono ?_
    rintro e u ⟨rfl, rfl⟩
    go_wp2_with fail
    refine bodyPost_ret (v := .tuple #[.agg #[.string ⟨#[]⟩, .int .i64 0, .int .i64 0, .string ⟨#[]⟩, .slice none 0 0, .slice none 0 0], .int .i64 (at_ : Int), .int .i64 71]) (by simp [results, Try.results11, go_sem, c0, c1, c2, c3, c4, c5]) rfl ?_
    exact ⟨rfl, (unhide HB).below⟩
  rw [if_neg he]
  have he0 : er = 0 := by simpa using he
  subst he0
  obtain ⟨b, hb1, hb2, hb3, hb4⟩ : ∃ b : Nat, at_ ≤ b ∧ b ≤ zs.length ∧ nx = (b : Int) ∧ k.size ≤ 32 := by
    obtain ⟨b, h1, h2, h3, h4, _⟩ := hf rfl
    exact ⟨b, h1, h2, h3, by omega⟩
  subst hb3
  clear he hf
  by_cases hlt : Op.bytesLess p.toList k.toList = false
  · rw [if_pos hlt]
    have k1 : (Op.bytesLess k.toList p.toList || k.toList == p.toList) = true := by have := bl_not p.toList k.toList; rw [hlt] at this; cases h : (Op.bytesLess k.toList p.toList || k.toList == p.toList) with | true => rfl | false => rw [h] at this; cases this
    obtain ⟨c0, c1, c2, c3, c4, c5⟩ := row_cell6 (by have := BX.row; rw [hg] at this; exact this)
    clear BX hz
    go_enter Try.func11, Try.ntmps11
    go_wp2_with fail
    refine (unhide CT).mono ?_
    rintro e u ⟨rfl, rfl⟩
    go_wp2_with fail
    refine bodyPost_ret (v := .tuple #[.agg #[.string ⟨#[]⟩, .int .i64 0, .int .i64 0, .string ⟨#[]⟩, .slice none 0 0, .slice none 0 0], .int .i64 (at_ : Int), .int .i64 70]) (by simp [results, Try.results11, go_sem, c0, c1, c2, c3, c4, c5]) rfl ?_
    exact ⟨rfl, (unhide HB).below⟩
  · rw [if_neg hlt]
    have hlt' : Op.bytesLess p.toList k.toList = true := by simpa using hlt
    have k1 : (Op.bytesLess k.toList p.toList || k.toList == p.toList) = false := by have := bl_not p.toList k.toList; rw [hlt'] at this; cases h : (Op.bytesLess k.toList p.toList || k.toList == p.toList) with | false => rfl | true => rw [h] at this; cases this
    have CTk := hide (take_any ao len cap zs (b : Int) _ (hz.later BX.below) hm)
    have hg1 : g < (w.alloc (.cells #[.string ⟨#[]⟩, .int .i64 0, .int .i64 0, .string ⟨#[]⟩, .slice none 0 0, .slice none 0 0] 38)).heap.size := by have := BX.size; omega
    clear BX hz hlt hlt'
    cases hT : takeR zs (b : Int) with
    | error q =>
      rw [hT] at CTk
      obtain ⟨qc, qp⟩ := q
      have hne : ¬ qc = 0 := by
        have := take_codeS hT
        dsimp only at this
        omega
      dsimp only
      go_enter Try.func11, Try.ntmps11
      go_wp2_with fail
      refine (unhide CT).mono ?_
      rintro e u ⟨rfl, rfl⟩
      go_wp2_with fail
      refine (unhide CTk).mono ?_
      rintro e u ⟨rfl, b1⟩
      have U0 : Hid (u.heap[g]? = some (.cells #[.string ⟨#[]⟩, .int .i64 0, .int .i64 0, .string ⟨#[]⟩, .slice none 0 0, .slice none 0 0] 38 (0, 0)) ∧ Below w.heap.size w u) := hide ⟨(b1.block g hg1).trans (by rw [← hg]; exact (unhide HB).row), (unhide HB).below.trans (b1.mono (by have := (unhide HB).size; omega))⟩
      clear b1 CT CTk hg1
      go_upto_region 7 with fail
      have n0 := Box.mk' u (.int .i64 0) (.int .i64 0) (.string ⟨#[]⟩) (.slice none 0 0) (.slice none 0 0)
      obtain ⟨w4, hw4⟩ : ∃ w4, u.alloc (.cells #[.int .i64 0, .int .i64 0, .string ⟨#[]⟩, .slice none 0 0, .slice none 0 0] 36) = w4 := ⟨_, rfl⟩
      rw [hw4] at n0 ⊢
      have at4 := (n0.below.block g (lt_of_row (unhide U0).1)).trans (unhide U0).1
      have B4 := (unhide U0).2.trans (n0.below.mono (unhide U0).2.size)
      obtain ⟨z0, z1, z2, z3, z4, z5⟩ := row_cell6 at4
      have fz0 := frozen_of_row w4 g 0 _ _ at4
      have fz1 := frozen_of_row w4 g 1 _ _ at4
      have fz2 := frozen_of_row w4 g 2 _ _ at4
      have fz3 := frozen_of_row w4 g 3 _ _ at4
      have fz4 := frozen_of_row w4 g 4 _ _ at4
      have fz5 := frozen_of_row w4 g 5 _ _ at4
      have H4 := hide (And.intro at4 B4)
      clear hw4 n0 at4 B4 U0
      go_wp2_with fail
      have F9 := six_set w4 g 38 _ _ _ _ _ _ (.string ⟨#[]⟩) (.int .i64 0) (.int .i64 0) (.string ⟨#[]⟩) (.slice none 0 0) (.slice none 0 0) (unhide H4).1
      generalize (((((w4.setCell ⟨g, 0, none⟩ (.string ⟨#[]⟩)).setCell ⟨g, 1, none⟩ (.int .i64 0)).setCell ⟨g, 2, none⟩ (.int .i64 0)).setCell ⟨g, 3, none⟩ (.string ⟨#[]⟩)).setCell ⟨g, 4, none⟩ (.slice none 0 0)).setCell ⟨g, 5, none⟩ (.slice none 0 0) = w9 at F9 ⊢
      obtain ⟨r0, r1, r2, r3, r4, r5⟩ := row_cell6 F9.1
      refine bodyPost_ret (v := .tuple #[.agg #[.string ⟨#[]⟩, .int .i64 0, .int .i64 0, .string ⟨#[]⟩, .slice none 0 0, .slice none 0 0], .int .i64 qp, .int .i64 71]) (by simp [results, Try.results11, go_sem, r0, r1, r2, r3, r4, r5]) rfl ?_
      exact ⟨rfl, F9.2.1 _ _ (unhide H4).2 (by omega)⟩
    | ok q =>
      obtain ⟨v, n⟩ := q
      rw [hT] at CTk
      dsimp only
      clear hT
      go_enter Try.func11, Try.ntmps11
      go_wp2_with fail
      refine (unhide CT).mono ?_
      rintro e u ⟨rfl, rfl⟩
      go_wp2_with fail
      refine (unhide CTk).mono ?_
      rintro e u ⟨x2, rfl, p2, b1⟩
      obtain ⟨k5, n5, s5, l5, ks5, al5, ak5, cl5, ck5, hy5, rfl⟩ := p2.shape
      clear hy5
      obtain ⟨lc5, hlc5⟩ : ∃ lc5, l5.length = lc5 := ⟨_, rfl⟩
      obtain ⟨mc5, hmc5⟩ : ∃ mc5, ks5.length = mc5 := ⟨_, rfl⟩
      rw [hlc5, hmc5] at p2 ⊢
      clear hlc5 hmc5
      have U0 : Hid (u.heap[g]? = some (.cells #[.string ⟨#[]⟩, .int .i64 0, .int .i64 0, .string ⟨#[]⟩, .slice none 0 0, .slice none 0 0] 38 (0, 0)) ∧ Below w.heap.size w u) := hide ⟨(b1.block g hg1).trans (by rw [← hg]; exact (unhide HB).row), (unhide HB).below.trans (b1.mono (by have := (unhide HB).size; omega))⟩
      have HP := hide (And.intro p2 hg1)
      clear b1 CT CTk hg1 p2
      go_upto_region 7 with fail
      have n0 := Box.mk' u (.int .i64 k5) (.int .i64 n5) (.string s5) (.slice al5 lc5 cl5) (.slice ak5 mc5 ck5)
      obtain ⟨w4, hw4⟩ : ∃ w4, u.alloc (.cells #[.int .i64 k5, .int .i64 n5, .string s5, .slice al5 lc5 cl5, .slice ak5 mc5 ck5] 36) = w4 := ⟨_, rfl⟩
      rw [hw4] at n0 ⊢
      have at4 := (n0.below.block g (lt_of_row (unhide U0).1)).trans (unhide U0).1
      have B4 := (unhide U0).2.trans (n0.below.mono (unhide U0).2.size)
      obtain ⟨z0, z1, z2, z3, z4, z5⟩ := row_cell6 at4
      have fz0 := frozen_of_row w4 g 0 _ _ at4
      have fz1 := frozen_of_row w4 g 1 _ _ at4
      have fz2 := frozen_of_row w4 g 2 _ _ at4
      have fz3 := frozen_of_row w4 g 3 _ _ at4
      have fz4 := frozen_of_row w4 g 4 _ _ at4
      have fz5 := frozen_of_row w4 g 5 _ _ at4
      obtain ⟨G, hG⟩ : ∃ G, u.heap.size = G := ⟨_, rfl⟩
      have hgG : g < G := by have := lt_of_row (unhide U0).1; omega
      have hrow := n0.row
      rw [hG] at hrow ⊢
      obtain ⟨y0, y1, y2, y3, y4⟩ := row_cell hrow
      have hn1 : ¬ g = G := by omega
      have hn2 : ¬ G = g := by omega
      have H4 := hide (And.intro at4 (And.intro B4 (And.intro n0 hG)))
      clear hw4 n0 at4 B4 U0 hrow hG
      go_wp2_with fail
      have F9 := six_set w4 g 38 _ _ _ _ _ _ (.string k) (.int .i64 k5) (.int .i64 n5) (.string s5) (.slice al5 lc5 cl5) (.slice ak5 mc5 ck5) (unhide H4).1
      generalize (((((w4.setCell ⟨g, 0, none⟩ (.string k)).setCell ⟨g, 1, none⟩ (.int .i64 k5)).setCell ⟨g, 2, none⟩ (.int .i64 n5)).setCell ⟨g, 3, none⟩ (.string s5)).setCell ⟨g, 4, none⟩ (.slice al5 lc5 cl5)).setCell ⟨g, 5, none⟩ (.slice ak5 mc5 ck5) = w9 at F9 ⊢
      obtain ⟨r0, r1, r2, r3, r4, r5⟩ := row_cell6 F9.1
      refine bodyPost_ret (v := .tuple #[.agg #[.string k, .int .i64 k5, .int .i64 n5, .string s5, .slice al5 lc5 cl5, .slice ak5 mc5 ck5], .int .i64 (n : Int), .int .i64 0]) (by simp [results, Try.results11, go_sem, r0, r1, r2, r3, r4, r5]) rfl ?_
      obtain ⟨at4, B4, n0, hG⟩ := unhide H4
      have hs4 := n0.size
      refine ⟨k5, n5, s5, al5, ak5, lc5, cl5, mc5, ck5, rfl, ((unhide HP).1.move (fun c hc => ?_)).weak (fun c hc => ⟨?_, ?_⟩), F9.2.1 _ _ B4 (by omega)⟩
      · rw [F9.2.2.1 c (by have := (unhide HP).2; omega), n0.below.block c (by omega)]
      · have := (unhide HB).size; omega
      · have := F9.2.2.2; omega
end Go.Proofs.Ytjkladljhbcelaa

namespace Go.Proofs.Ytjkladljhbcelaa
open Go.RowKit

theorem flat6_len : ∀ (R : List (List Value)), (∀ r ∈ R, r.length = 6) → R.flatten.length = R.length * 6
  | [], _ => rfl
  | r :: R, h => by
    have h1 := h r List.mem_cons_self
    have h2 := flat6_len R (fun x hx => h x (List.mem_cons_of_mem _ hx))
    rw [List.flatten_cons, List.length_append, List.length_cons]
    omega

theorem flat6_at : ∀ (R : List (List Value)), (∀ r ∈ R, r.length = 6) → ∀ (i : Nat) (r : List Value), R[i]? = some r → ∀ (j : Nat) (v : Value), r[j]? = some v → R.flatten[i * 6 + j]? = some v
  | [], _, i, r, h, _, _, _ => by simp at h
  | q :: R, h, 0, r, hr, j, v, hv => by
    simp at hr
    subst hr
    rw [List.flatten_cons, Nat.zero_mul, Nat.zero_add, List.getElem?_append_left (List.getElem?_eq_some_iff.1 hv).1]
    exact hv
  | q :: R, h, i + 1, r, hr, j, v, hv => by
    have h1 := h q List.mem_cons_self
    have h2 := flat6_at R (fun x hx => h x (List.mem_cons_of_mem _ hx)) i r (by simpa using hr) j v hv
    rw [List.flatten_cons, List.getElem?_append_right (by omega)]
    rw [show (i + 1) * 6 + j - q.length = i * 6 + j by omega]
    exact h2

theorem infoE : (Try.prog.info? 38).map (fun i => (i.zero, i.size, i.bytes)) = some (some (.agg #[.string ⟨#[]⟩, .int .i64 0, .int .i64 0, .string ⟨#[]⟩, .slice none 0 0, .slice none 0 0]), 6, 96) := by kernel_rfl

theorem six_cells {w : World} {gv : Nat} {x0 x1 x2 x3 x4 x5 : Value} {E : TypeId} (h : w.heap[gv]? = some (.cells #[x0, x1, x2, x3, x4, x5] E (0, 0))) : ∀ j u, [x0, x1, x2, x3, x4, x5][j]? = some u → w.cell? ((⟨gv, 0, none⟩ : Addr).add j) = some u := by
  intro j u hj
  have hadd : (⟨gv, 0, none⟩ : Addr).add j = ⟨gv, j, none⟩ := by unfold Addr.add; split <;> simp_all
  rw [hadd, cell_of_row w gv j _ _ (0, 0) h, ← hj]
  simp

/-- append of one entry, at a plain region's list -/
theorem wpl_app6 {w : World} {ops : Array Oper} {rest : List Oper} {o : Oper} {a : Act} {Q : Exit → Act → World → Prop} (hgd : o.guard = none) (sl x : Operand)
    (ho : o.op = .call { callee := .builtin .append, args := #[sl, x], argTypes := #[24, 24] })
    (base n : Nat) (v : Value) (xs : List Value) (hs : a.eval sl = v) (hown : w.ownsRow base 38 6 v n xs)
    (gv : Nat) (s : ByteArray) (x0 x1 : Int) (x2 : ByteArray) (al ak : Option Addr) (ll cl m ck : Nat) (hx : a.eval x = .slice (some ⟨gv, 0, none⟩) 1 1) (hg : w.heap[gv]? = some (.cells #[.string s, .int .i64 x0, .int .i64 x1, .string x2, .slice al ll cl, .slice ak m ck] 38 (0, 0)))
    (hbytes : n ≤ 1000000) (hbase : base ≤ w.heap.size)
    (h : ∀ v' w', Hid (w'.ownsRow base 38 6 v' (n + 1) (xs ++ [.string s, .int .i64 x0, .int .i64 x1, .string x2, .slice al ll cl, .slice ak m ck]) ∧ Grew w w' v v') → wpList Try.prog ops Q rest (a.put o.dst v') w') :
    wpList Try.prog ops Q (o :: rest) a w := by
  obtain ⟨i0, hi, hz0, hz1, hz2⟩ := info_parts infoE
  refine wpList_plain hgd fun K hK => ?_
  obtain ⟨v', w', hrun, h2, h3, _, h5⟩ := run_append_own_at (P := Try.prog) w base 24 o.type 38 i0 _ 6 96 Try.underlying24 hi hz0 hz1 hz2 rfl (by decide) v n _ hown ⟨gv, 0, none⟩ 1 1 [.string s, .int .i64 x0, .int .i64 x1, .string x2, .slice al ll cl, .slice ak m ck] rfl (six_cells hg) (by intro u hu; simp only [List.mem_cons, List.mem_nil_iff, or_false] at hu; rcases hu with rfl | rfl | rfl | rfl | rfl | rfl <;> rfl) (by unfold maxLen; omega) (by omega) hbase
  unfold Oper.wp
  simp only [execOp, ho, resolve, invoke, builtin, Sem.run_bind, Sem.run_pure, Result.andThen_ok, List.map_toArray, List.map_cons, List.map_nil, hs, hx, hrun]
  refine hK _ _ (h v' w' ⟨h2, h3, fun b hb => ?_⟩)
  rcases h5 with e | e
  · exact Or.inl (by rw [← e]; exact hb)
  · rw [hb] at e
    exact Or.inr (by rw [Option.some.inj e]; exact Nat.le_refl _)

/-- entries that are being read -/
structure Dec (w wr : World) (ov : Value) (es : List En) (R : List (List Value)) : Prop where
  len : R.length = es.length
  six : ∀ r ∈ R, r.length = 6
  row : wr.ownsRow w.heap.size 38 6 ov es.length R.flatten
  el : ∀ (i : Nat) (e : En), es[i]? = some e → ∃ cs : List Value, R[i]? = some (.string e.1 :: cs) ∧ cs.length = 5 ∧ IsQ wr (fun b => w.heap.size ≤ b ∧ b < wr.heap.size ∧ ov.ownBlock ≠ some b) e.2 (.agg cs.toArray)
  kt : ∀ e ∈ es, e.1.size ≤ 32
  below : Below w.heap.size w wr

theorem Dec.start (w : World) : Dec w w (.slice none 0 0) [] [] :=
  ⟨rfl, by simp, World.ownsRow_nil _ _ _ _, (fun i e h => by simp at h), (fun e h => by cases h), Below.refl _ _⟩

theorem Dec.later {w wr u : World} {ov : Value} {es : List En} {R : List (List Value)} (h : Dec w wr ov es R) (hb : Below wr.heap.size wr u) : Dec w u ov es R :=
  ⟨h.len, h.six, own_below h.row hb, fun i e he => by
    obtain ⟨cs, h1, h2, h3⟩ := h.el i e he
    exact ⟨cs, h1, h2, h3.to (fun b hP => hb.block b hP.2.1) (fun b hP => ⟨hP.1, Nat.lt_of_lt_of_le hP.2.1 hb.size, hP.2.2⟩)⟩, h.kt, h.below.trans (hb.mono h.below.size)⟩

theorem Dec.push {w wr u u' : World} {ov ov' : Value} {es : List En} {R : List (List Value)} (h : Dec w wr ov es R) (hb : Below wr.heap.size wr u) {s : ByteArray} {v : Vl} {cs : List Value} (hcs : cs.length = 5) (hs : s.size ≤ 32)
    (hv : IsQ u (fun b => wr.heap.size ≤ b ∧ b < u.heap.size) v (.agg cs.toArray)) (ho : u'.ownsRow w.heap.size 38 6 ov' (es.length + 1) (R.flatten ++ (.string s :: cs))) (hg : Grew u u' ov ov') :
    Dec w u' ov' (es ++ [(s, v)]) (R ++ [.string s :: cs]) := by
  have hl := h.later hb
  have hsz := hg.grown.size
  have hlt : ∀ b, ov.ownBlock = some b → b < wr.heap.size := fun b e => (h.row.lt b e).2
  have hP : ∀ b, w.heap.size ≤ b ∧ b < u.heap.size ∧ ov.ownBlock ≠ some b → w.heap.size ≤ b ∧ b < u'.heap.size ∧ ov'.ownBlock ≠ some b := fun b hP => by
    refine ⟨hP.1, by omega, fun e => ?_⟩
    rcases hg.row b e with e' | e'
    · exact hP.2.2 e'
    · omega
  have hk : ∀ b, w.heap.size ≤ b ∧ b < u.heap.size ∧ ov.ownBlock ≠ some b → u'.heap[b]? = u.heap[b]? := fun b hP => hg.far hP.2.1 (fun e => hP.2.2 e.symm)
  refine ⟨by simp [h.len], ?_, ?_, ?_, ?_, ?_⟩
  · intro r hr
    rcases List.mem_append.1 hr with hr | hr
    · exact h.six r hr
    · simp at hr; subst hr; simp [hcs]
  · rw [List.flatten_append, List.length_append]
    simpa using ho
  · intro i e he
    by_cases hi : i < es.length
    · rw [List.getElem?_append_left hi] at he
      obtain ⟨cs', h1, h2, h3⟩ := hl.el i e he
      exact ⟨cs', by rw [List.getElem?_append_left (by rw [h.len]; exact hi)]; exact h1, h2, h3.to hk hP⟩
    · rw [List.getElem?_append_right (by omega)] at he
      have hi0 : i - es.length = 0 := by
        have := (List.getElem?_eq_some_iff.1 he).1
        simp at this
        omega
      rw [hi0] at he
      simp at he
      subst he
      refine ⟨cs, by rw [List.getElem?_append_right (by rw [h.len]; omega), h.len, hi0]; rfl, hcs, ?_⟩
      have hw := h.below.size
      exact (hv.weak (Q := fun b => w.heap.size ≤ b ∧ b < u.heap.size ∧ ov.ownBlock ≠ some b) (fun b hP => ⟨by omega, hP.2, fun e => by have := hlt b e; omega⟩)).to hk hP
  · intro e he
    rcases List.mem_append.1 he with he | he
    · exact h.kt e he
    · simp at he; subst he; exact hs
  · exact hl.below.trans ((Below.refl _ _).grown hg.grown hl.below.size (fun k e => (h.row.lt k e).1))

theorem Dec.made {w wr : World} {ov : Value} {es : List En} {R : List (List Value)} (h : Dec w wr ov es R) (hn : es.length ≤ 128) : ∃ al cl, ov = .slice al es.length cl ∧ IsE wr (fun b => w.heap.size ≤ b ∧ b < wr.heap.size) es al cl := by
  obtain ⟨al, cl, he, nl, ll, _, ha⟩ := slice_form h.row
  refine ⟨al, cl, he, fun i => (R.getD i []).tail, nl, ll, by omega, ?_, fun e he => by have := h.kt e he; omega, ?_⟩
  · intro a haa i e hi
    obtain ⟨h1, h2⟩ := ha a haa
    obtain ⟨cs, q1, q2, _⟩ := h.el i e hi
    refine ⟨h.row.lt _ h1, fun j v hv => ?_⟩
    have hd : R.getD i [] = .string e.1 :: cs := by rw [List.getD_eq_getElem?_getD, q1]; rfl
    rw [hd] at hv
    have hc' := h.row.cells h1 (i * 6 + j) v (flat6_at R h.six i _ q1 j v hv)
    have ea : (a.add (i * 6)).add j = (⟨a.block, 0, none⟩ : Addr).add (i * 6 + j) := by
      rw [h2]
      unfold Addr.add
      by_cases h0 : i * 6 = 0
      · by_cases h9 : j = 0
        · simp [h0, h9]
        · simp [h0, h9]
      · by_cases h9 : j = 0
        · simp [h0, h9]
        · simp [h0, h9]
    rw [ea]
    exact hc'
  · intro i e hi
    obtain ⟨cs, q1, q2, q3⟩ := h.el i e hi
    have hd : (R.getD i []).tail = cs := by rw [List.getD_eq_getElem?_getD, q1]; rfl
    rw [hd]
    exact ⟨q2, q3.1.weak (fun b hP => ⟨hP.1, hP.2.1⟩)⟩
/-- a row of entries that is its owner's -/
def OwnE (w : World) (P : Nat → Prop) (n : Nat) (al : Option Addr) (cl : Nat) : Prop :=
  (al = none ∧ n = 0 ∧ cl = 0) ∨ ∃ b cs, al = some ⟨b, 0, none⟩ ∧ P b ∧ w.heap[b]? = some (.cells cs 38 (0, 0)) ∧ cs.size = cl * 6 ∧ n ≤ cl ∧ cl ≤ maxLen ∧ ∀ i, i < n → ∃ k y0 y1 y2 y3 y4 r, cs[i * 6]? = some (.string k) ∧ (cs[i * 6 + 1]? = some y0 ∧ cs[i * 6 + 2]? = some y1 ∧ cs[i * 6 + 3]? = some y2 ∧ cs[i * 6 + 4]? = some y3 ∧ cs[i * 6 + 5]? = some y4) ∧ Ty w (fun q => P q ∧ q ≠ b) r (.agg #[y0, y1, y2, y3, y4])
theorem OwnE.to {w w' : World} {P Q : Nat → Prop} (hw : ∀ b, P b → w'.heap[b]? = w.heap[b]?) (hP : ∀ b, P b → Q b) {n : Nat} {al : Option Addr} {cl : Nat} (h : OwnE w P n al cl) : OwnE w' Q n al cl := by
  rcases h with h | ⟨b, cs, h1, h2, h3, h4, h5, h6, h7⟩
  · exact Or.inl h
  · refine Or.inr ⟨b, cs, h1, hP b h2, (hw b h2).trans h3, h4, h5, h6, fun i hi => ?_⟩
    obtain ⟨k, y0, y1, y2, y3, y4, r, g0, g, ht⟩ := h7 i hi
    exact ⟨k, y0, y1, y2, y3, y4, r, g0, g, Ty.to (fun q hq => hw q hq.1) (fun q hq => ⟨hP q hq.1, hq.2⟩) _ _ ht⟩

theorem Dec.own {w wr : World} {es : List En} {R : List (List Value)} {al : Option Addr} {cl : Nat} (h : Dec w wr (.slice al es.length cl) es R) : OwnE wr (fun b => w.heap.size ≤ b ∧ b < wr.heap.size) es.length al cl := by
  rcases h.row.2 with ⟨e1, hn⟩ | ⟨g, cap, cur, e1, hb, hg, hnc, hcm, hsz, htk⟩
  · simp only [Value.slice.injEq] at e1
    exact Or.inl e1
  · simp only [Value.slice.injEq, true_and] at e1
    obtain ⟨rfl, rfl⟩ := e1
    refine Or.inr ⟨g, cur, rfl, ⟨hb, lt_of_row hg⟩, hg, hsz, hnc, hcm, fun i hi => ?_⟩
    obtain ⟨e, he⟩ : ∃ e, es[i]? = some e := ⟨_, List.getElem?_eq_getElem hi⟩
    obtain ⟨cs, q1, q2, q3⟩ := h.el i e he
    have hc : ∀ j v, (Value.string e.1 :: cs)[j]? = some v → cur[i * 6 + j]? = some v := fun j v hv => by
      have h1 := flat6_at R h.six i _ q1 j v hv
      rw [← htk, List.getElem?_take] at h1
      split at h1
      · simpa using h1
      · cases h1
    have ht : Ty wr (fun q => (w.heap.size ≤ q ∧ q < wr.heap.size) ∧ q ≠ g) (dep e.2) (.agg cs.toArray) := Ty.to (fun _ _ => rfl) (fun q hq => ⟨⟨hq.1, hq.2.1⟩, fun e0 => hq.2.2 (by rw [e0]; rfl)⟩) _ _ q3.2
    match cs, q2 with
    | [y0, y1, y2, y3, y4], _ => exact ⟨e.1, y0, y1, y2, y3, y4, _, by simpa using hc 0 _ rfl, ⟨hc 1 _ rfl, hc 2 _ rfl, hc 3 _ rfl, hc 4 _ rfl, hc 5 _ rfl⟩, ht⟩

end Go.Proofs.Ytjkladljhbcelaa

namespace Go.Proofs.Ytjkladljhbcelaa
open Go.RowKit

def ResDS (w : World) (r : Except (Int × Int) (List En)) (e : Ending) (w' : World) : Prop :=
  match r with
  | .error p => e = .returned (.tuple #[.slice none 0 0, .int .i64 p.2, .int .i64 p.1]) ∧ Below w.heap.size w w'
  | .ok es => ∃ al cl, e = .returned (.tuple #[.slice al es.length cl, .int .i64 0, .int .i64 0]) ∧ IsE w' (fun b => w.heap.size ≤ b ∧ b < w'.heap.size) es al cl ∧ OwnE w' (fun b => w.heap.size ≤ b ∧ b < w'.heap.size) es.length al cl ∧ Below w.heap.size w w'

/-- what is left to do behind some entries -/
def restS (zs : List Int) (k : Nat) (es : List En) (a : Nat) (p : ByteArray) (t : Nat) : Except (Int × Int) (List En) :=
  match rdE zs k es a p t with
  | .error q => .error q
  | .ok (es', a') => if a' < zs.length then .error (72, (a' : Int)) else .ok es'

theorem restS_zero (zs : List Int) (es : List En) (a : Nat) (p : ByteArray) (t : Nat) : restS zs 0 es a p t = if a < zs.length then .error (72, (a : Int)) else .ok es := by
  simp [restS, rdE]

theorem restS_err {zs : List Int} {k : Nat} {es : List En} {a : Nat} {p : ByteArray} {t : Nat} {q : Int × Int} (h : takeE zs a p = .error q) : restS zs (k + 1) es a p t = .error q := by
  simp [restS, rdE, h]

theorem restS_ok {zs : List Int} {k : Nat} {es : List En} {a : Nat} {p : ByteArray} {t : Nat} {e : En} {a' : Nat} (h : takeE zs a p = .ok (e, a')) : restS zs (k + 1) es a p t = if 32768 < t + entW e then .error (70, (a : Int)) else restS zs k (es ++ [e]) a' e.1 (t + entW e) := by
  simp only [restS, rdE, h]
  by_cases hb : 32768 < t + entW e
  · rw [if_pos hb, if_pos hb]
  · rw [if_neg hb, if_neg hb]

theorem takeE_code {zs : List Int} {a : Nat} {p : ByteArray} {q : Int × Int} (h : takeE zs a p = .error q) : q.1 = 70 ∨ q.1 = 71 := by
  unfold takeE at h
  split at h
  · cases h; exact Or.inr rfl
  · split at h
    · cases h; exact Or.inl rfl
    · split at h
      · cases h; exact Or.inr rfl
      · cases h

theorem rdE_code {zs : List Int} : ∀ (n : Nat) (es : List En) (a : Nat) (p : ByteArray) (t : Nat) (q : Int × Int), rdE zs n es a p t = .error q → q.1 = 70 ∨ q.1 = 71
  | 0, es, a, p, t, q, h => by simp only [rdE] at h; cases h
  | n + 1, es, a, p, t, q, h => by
    simp only [rdE] at h
    cases hk : takeE zs a p with
    | error e => rw [hk] at h; cases h; exact takeE_code hk
    | ok r =>
      obtain ⟨e, a1⟩ := r
      rw [hk] at h
      dsimp only at h
      split at h
      · cases h; exact Or.inl rfl
      · exact rdE_code n _ a1 _ _ q h

theorem startE_code {zs : List Int} {q : Int × Int} (h : startE zs = .error q) : q.1 = 70 ∨ q.1 = 71 := by
  unfold startE at h
  split at h
  · cases h; exact Or.inr rfl
  · split at h
    · cases h; exact Or.inr rfl
    · split at h
      · cases h; exact Or.inl rfl
      · cases h

set_option maxRecDepth 100000 in
set_option maxHeartbeats 1000000 in
theorem decodeS_any (ao : Option Addr) (len cap : Nat) (zs : List Int) (w : World) (hz : Row8 w ao len cap zs) (hm : cap ≤ maxLen) :
    Calls Try.prog 5 #[.slice ao len cap] w fun e w' => ResDS w (decS zs) e w' := by
  have hlen := hz.length
  have hle := hz.le
  have hsm := hz.small
  have hm' : cap ≤ 9223372036854775807 := by unfold maxLen at hm; omega
  have CS := hide (start_any ao len cap zs w hz hm)
  cases hS : startE zs with
  | error q =>
    rw [hS] at CS
    have hD : decS zs = .error q := by unfold decS; rw [hS]
    rw [hD]
    have hne : ¬ q.1 = 0 := by have := startE_code hS; omega
    obtain ⟨qc, qp⟩ := q
    dsimp only at hne
    clear hD hS
    go_enter Try.func5, Try.ntmps5
    go_wp2_with fail
    refine (unhide CS).mono ?_
    rintro e u ⟨h1, rfl⟩
    unfold ResSt at h1
    dsimp only at h1
    subst h1
    go_wp2_with fail
    go_ret3
    exact ⟨rfl, Below.refl _ _⟩
  | ok q =>
    obtain ⟨n, a⟩ := q
    rw [hS] at CS
    obtain ⟨s1, s2, s3, _⟩ := start_form hsm hS
    have hD : decS zs = restS zs n [] a ⟨#[]⟩ 0 := by simp only [decS, restS, hS]; rfl
    rw [hD]
    obtain ⟨D, hDD⟩ : ∃ D, restS zs n [] a ⟨#[]⟩ 0 = D := ⟨_, rfl⟩
    have HD := hide hDD
    rw [hDD]
    clear hDD
    have HZ := hide hz
    have HSM := hide hsm
    have ha0 : a ≤ len := by omega
    have HLEN := hide hlen
    clear hD hS s2 s3 hz hsm
    go_enter Try.func5, Try.ntmps5
    go_wp2_with fail
    refine (unhide CS).mono ?_
    rintro e u ⟨h1, rfl⟩
    unfold ResSt at h1
    dsimp only at h1
    subst h1
    go_wp2_with fail
    go_loopw [6, 8, 9, 10, 25] (fun xa xo xp xt xi wr => ∃ (i a : Nat) (ov : Value) (p : ByteArray) (t : Nat) (es : List En) (R : List (List Value)), xa = .int .i64 (a : Int) ∧ xo = ov ∧ xp = .string p ∧ xt = .int .i64 (t : Int) ∧ xi = .int .u64 (i : Int) ∧ a ≤ len ∧ t ≤ 32768 ∧ Hid (i ≤ n ∧ es.length = i) ∧ Hid (restS zs (n - i) es a p t = D) ∧ Hid (Dec u wr ov es R)) (fun _ _ _ _ xi _ => n - (intOf xi).toNat)
    case atStart => exact ⟨0, a, _, _, 0, [], [], rfl, rfl, rfl, rfl, rfl, ha0, by omega, hide ⟨by omega, rfl⟩, HD, hide (Dec.start u)⟩
    case round =>
      clear HD ha0
      obtain ⟨i, a, ov, p, t, es, R, rfl, rfl, rfl, rfl, rfl, hal, ht, HI, HD, HR⟩ := hrel
      by_cases hlt : i < n
      · have j1 : (i : Int) < (n : Int) := by omega
        have CT := hide (takeE_any ao len cap zs a p wr ((unhide HZ).later (unhide HR).below) hm)
        obtain ⟨k, hk⟩ : ∃ k, n - i = k + 1 := ⟨n - i - 1, by omega⟩
        rw [hk] at HD
        cases hT : takeE zs a p with
        | error q =>
          rw [hT] at CT
          rw [restS_err hT] at HD
          have hne : ¬ q.1 = 0 := by have := takeE_code hT; omega
          obtain ⟨qc, qp⟩ := q
          dsimp only at hne
          go_wp2_with fail
          refine (unhide CT).mono ?_
          rintro e u2 ⟨rfl, b2⟩
          have B2 := hide ((unhide HR).below.trans (b2.mono (unhide HR).below.size))
          clear b2
          go_wp2_with fail
          go_ret3
          rw [← unhide HD]
          exact ⟨rfl, (unhide B2).alloc (unhide B2).size _⟩
        | ok q =>
          obtain ⟨⟨s, v⟩, a'⟩ := q
          rw [hT] at CT
          rw [restS_ok hT] at HD
          have SN := takeE_sound (unhide HSM) hT
          obtain ⟨q1, q2, q3⟩ := ent_parts SN.ok
          dsimp only at q1 q2 q3
          have hal' : a' ≤ len := by have := SN.le; have := unhide HLEN; omega
          have hw1 := entW_le SN.ok
          dsimp only at HD
          obtain ⟨E, hE⟩ : ∃ E, entW (s, v) = E := ⟨_, rfl⟩
          rw [hE] at HD hw1
          have e1 : IntKind.i64.wrap ((t : Int) + (E : Int)) = ((t + E : Nat) : Int) := by rw [IntKind.wrap_i64]; omega
          have HE := hide hE
          clear hT SN hE
          go_wp2_with fail
          refine (unhide CT).mono ?_
          rintro e u2 ⟨x0, x1, x2, al, ak, ll, cl, m, ck, rfl, p2, b2⟩
          have H2 := hide (And.intro p2 b2)
          clear p2 b2 CT
          obtain ⟨G, hG⟩ : ∃ G, u2.heap.size = G := ⟨_, rfl⟩
          have BX := Box6.mk' u2 (.string s) (.int .i64 x0) (.int .i64 x1) (.string x2) (.slice al ll cl) (.slice ak m ck)
          obtain ⟨w5, hw5⟩ : ∃ w5, u2.alloc (.cells #[.string s, .int .i64 x0, .int .i64 x1, .string x2, .slice al ll cl, .slice ak m ck] 38) = w5 := ⟨_, rfl⟩
          rw [hw5] at BX
          have HP : Hid (∀ u, Below w5.heap.size w5 u → IsQ u (fun b => wr.heap.size ≤ b ∧ b < u2.heap.size) v (.agg #[.int .i64 x0, .int .i64 x1, .string x2, .slice al ll cl, .slice ak m ck]) ∧ u.heap[G]? = some (.cells #[.string s, .int .i64 x0, .int .i64 x1, .string x2, .slice al ll cl, .slice ak m ck] 38 (0, 0)) ∧ u2.heap.size < u.heap.size ∧ Below wr.heap.size wr u) := hide (fun u hu => by
            have hz := BX.size
            have b5 : Below u2.heap.size u2 u := BX.below.trans (hu.mono (by omega))
            refine ⟨(unhide H2).1.move (fun b hb => b5.block b hb.2), (hu.block G (by omega)).trans (by rw [← hG]; exact BX.row), by have := hu.size; omega, (unhide H2).2.trans (b5.mono (unhide H2).2.size)⟩)
          obtain ⟨d0, d1, d2, d3, d4, d5⟩ := row_cell6 (unhide HP w5 (Below.refl _ _)).2.1
          have CW := hide (weigh_any s v x0 x1 x2 al ak ll cl m ck u2.heap.size w5 ((unhide HP w5 (Below.refl _ _)).1.isV (fun b hb => hb.2)) (Nat.le_of_lt (unhide HP w5 (Below.refl _ _)).2.2.1) (by omega))
          rw [unhide HE] at CW
          have hwG0 := (unhide H2).2.size
          clear BX H2
          go_wp2_with fail
          refine (unhide CW).mono ?_
          rintro e u3 ⟨rfl, b3⟩
          obtain ⟨p3, r3, z3, B3⟩ := unhide HP u3 b3
          obtain ⟨f0, f1, f2, f3, f4, f5⟩ := row_cell6 r3
          have H3 := hide (And.intro p3 (And.intro z3 B3))
          have hwG : wr.heap.size ≤ G := by rw [← hG]; exact hwG0
          clear p3 z3 B3 b3 d0 d1 d2 d3 d4 d5 CW hw5
          by_cases hb : 32768 < t + E
          · have k1 : (32768 : Int) < ((t + E : Nat) : Int) := by omega
            have k2 : (32768 : Int) < (t : Int) + (E : Int) := by omega
            rw [if_pos hb] at HD
            go_wp2_with fail
            go_ret3
            rw [← unhide HD]
            exact ⟨rfl, (unhide HR).below.trans ((unhide H3).2.2.mono (unhide HR).below.size)⟩
          · have k1 : ¬ (32768 : Int) < ((t + E : Nat) : Int) := by omega
            have k2 : ¬ (32768 : Int) < (t : Int) + (E : Int) := by omega
            rw [if_neg hb] at HD
            have hi7 := (unhide HI).2
            obtain ⟨hbase, HRL⟩ : u.heap.size ≤ (u3.alloc (.cells #[.string s, .int .i64 x0, .int .i64 x1, .string x2, .slice al ll cl, .slice ak m ck] 38)).heap.size ∧ Hid (Below wr.heap.size wr (u3.alloc (.cells #[.string s, .int .i64 x0, .int .i64 x1, .string x2, .slice al ll cl, .slice ak m ck] 38))) := by
              have b4 := (unhide H3).2.2.alloc (unhide H3).2.2.size (.cells #[.string s, .int .i64 x0, .int .i64 x1, .string x2, .slice al ll cl, .slice ak m ck] 38)
              exact ⟨Nat.le_trans (unhide HR).below.size b4.size, hide b4⟩
            have HO := hide ((unhide HR).later (unhide HRL)).row
            rw [hi7] at HO
            have hin : i ≤ 1000000 := by omega
            clear hi7
            have HG : Hid (u3.heap[G]? = some (.cells #[.string s, .int .i64 x0, .int .i64 x1, .string x2, .slice al ll cl, .slice ak m ck] 38 (0, 0)) ∧ wr.heap.size ≤ G) := hide ⟨r3, by have := hwG; omega⟩
            clear r3 hwG
            go_upto_region 15 with (first | (at_builtin; refine wpl_app6 rfl (.tmp 46) (.tmp 48) rfl u.heap.size i u8 R.flatten rfl (unhide HO) u3.heap.size s x0 x1 x2 al ak ll cl m ck rfl (heap_alloc_new u3 _) hin hbase ?_; intro v6 w6 o6))
            have D6 : Hid (Dec u w6 v6 (es ++ [(s, v)]) (R ++ [[.string s, .int .i64 x0, .int .i64 x1, .string x2, .slice al ll cl, .slice ak m ck]])) := hide (by
              obtain ⟨y1, y2⟩ := unhide o6
              refine (unhide HR).push (unhide HRL) (cs := [.int .i64 x0, .int .i64 x1, .string x2, .slice al ll cl, .slice ak m ck]) rfl q2 ?_ (by rw [(unhide HI).2]; exact y1) y2
              have hs4 : (u3.alloc (.cells #[.string s, .int .i64 x0, .int .i64 x1, .string x2, .slice al ll cl, .slice ak m ck] 38)).heap.size = u3.heap.size + 1 := by simp
              refine (unhide H3).1.to (fun b hb => heap_alloc_old u3 _ (by have := (unhide H3).2.1; omega)) (fun b hb => ⟨hb.1, by have := (unhide H3).2.1; omega⟩))
            have g0 : w6.cell? ⟨G, 0, none⟩ = some (.string s) := by
              have hr := (unhide HG).1
              have hlt3 := lt_of_row hr
              have h7 : w6.heap[G]? = some (.cells #[.string s, .int .i64 x0, .int .i64 x1, .string x2, .slice al ll cl, .slice ak m ck] 38 (0, 0)) := by
                rw [(unhide o6).2.far (by simp; omega) (fun e => by have := ((unhide HR).row.lt G e.symm).2; have := (unhide HG).2; omega), heap_alloc_old u3 _ hlt3]
                exact hr
              exact (row_cell6 h7).1
            have HI1 : Hid (i + 1 ≤ n ∧ (es ++ [(s, v)]).length = i + 1) := hide ⟨by omega, by have := (unhide HI).2; simp; omega⟩
            have HD' : Hid (restS zs (n - (i + 1)) (es ++ [(s, v)]) a' s (t + E) = D) := hide (by rw [show n - (i + 1) = k by omega]; exact unhide HD)
            clear o6 HO HRL H3 HG
            go_wp2_with fail
            go_roundw
            case rel => exact ⟨i + 1, a', v6, s, t + E, es ++ [(s, v)], _, rfl, rfl, rfl, by first | rfl | go_num, by go_num, hal', by omega, HI1, HD', D6⟩
            case measure => have := (unhide HI1).1; simp [intOf]; omega
      · have j1 : ¬ (i : Int) < (n : Int) := by omega
        have hin : n - i = 0 := by omega
        rw [hin, restS_zero, hlen] at HD
        by_cases hb : a < len
        · have k1 : (a : Int) < (len : Int) := by omega
          rw [if_pos hb] at HD
          go_wp2_with fail
          go_ret3
          rw [← unhide HD]
          exact ⟨rfl, (unhide HR).below⟩
        · have k1 : ¬ (a : Int) < (len : Int) := by omega
          rw [if_neg hb] at HD
          obtain ⟨al, cl, rfl, hE⟩ := (unhide HR).made (by have := unhide HI; omega)
          have HE := hide hE
          have HOE := hide (unhide HR).own
          clear hE
          obtain ⟨L, hL⟩ : ∃ L, es.length = L := ⟨_, rfl⟩
          rw [hL]
          go_wp2_with fail
          go_ret3
          rw [← unhide HD]
          exact ⟨al, cl, by rw [hL]; rfl, unhide HE, unhide HOE, (unhide HR).below⟩
end Go.Proofs.Ytjkladljhbcelaa

namespace Go.Proofs.Ytjkladljhbcelaa
open Go.RowKit

def es0 : List En := [(⟨#[98]⟩, .mk 1 1 ⟨#[]⟩ [] [])]

theorem size98 : (⟨#[98]⟩ : ByteArray).size = 1 := rfl
theorem es0_right : rightE es0 = true := by
  simp [rightE, es0, keysE, stepsE, entB, rightB, okB, okL, formB, formM, wt, wtL, keysW, entsW, entW, wt0, size98, e0s]
theorem es0_bytes : encS es0 = [83, 83, 84, 49, 1, 1, 98, 2] := by
  simp [encS, es0, encEs, encE, headE, tx, wenc1, size98, nums]
  decide

/-- a value without lists lies in any memory -/
theorem plain_valS (w : World) (P : Nat → Prop) (k n : Int) (s : ByteArray) (bk : 0 ≤ k ∧ k ≤ 5) (bn : -9223372036854775808 ≤ n ∧ n ≤ 9223372036854775807) (bs : s.size ≤ 2048) :
    IsP w P (.mk k n s [] []) (.agg #[.int .i64 k, .int .i64 n, .string s, .slice none 0 0, .slice none 0 0]) := by
  have h := heap_alloc_new w (.cells #[.int .i64 k, .int .i64 n, .string s, .slice none 0 0, .slice none 0 0] 36)
  have hs : (w.alloc (.cells #[.int .i64 k, .int .i64 n, .string s, .slice none 0 0, .slice none 0 0] 36)).heap.size = w.heap.size + 1 := by simp
  generalize w.alloc (.cells #[.int .i64 k, .int .i64 n, .string s, .slice none 0 0, .slice none 0 0] 36) = u at h hs
  have M : Mid u (w.heap.size + 1) w.heap.size k n s [] [] (.slice none 0 0) (.slice none 0 0) 0 0 (fun _ => []) := ⟨h, by omega, by omega, World.ownsRow_nil _ _ _ _, World.ownsRow_nil _ _ _ _, Or.inl rfl, fun c h => by omega, fun c y h => by omega⟩
  exact ((M.made rfl rfl (by omega) bn (by omega) (by simp) (by simp) (by simp)).to (fun b hb => by omega) (fun b hb => by omega)).1


theorem es0_is (w : World) (g : Nat) (h : w.heap[g]? = some (.cells #[.string ⟨#[98]⟩, .int .i64 1, .int .i64 1, .string ⟨#[]⟩, .slice none 0 0, .slice none 0 0] 38 (0, 0))) : IsE w (fun b => b < w.heap.size) es0 (some ⟨g, 0, none⟩) 1 := by
  refine ⟨fun _ => [.int .i64 1, .int .i64 1, .string ⟨#[]⟩, .slice none 0 0, .slice none 0 0], (fun e => by cases e), Nat.le_refl _, by simp [es0], ?_, ?_, ?_⟩
  · intro a ha i e he
    cases ha
    have hi : i = 0 := by have := (List.getElem?_eq_some_iff.1 he).1; simp [es0] at this; exact this
    subst hi
    simp [es0] at he
    subst he
    exact ⟨lt_of_row h, fun j v hv => six_cells h j v hv⟩
  · intro e he
    simp [es0] at he
    subst he
    rw [size98]
    omega
  · intro i e he
    have hi : i = 0 := by have := (List.getElem?_eq_some_iff.1 he).1; simp [es0] at this; exact this
    subst hi
    simp [es0] at he
    subst he
    exact ⟨rfl, plain_valS w _ 1 1 ⟨#[]⟩ (by omega) (by omega) (by rw [e0s]; omega)⟩

set_option maxRecDepth 100000 in
set_option maxHeartbeats 400000 in
theorem shown_any (w : World) : Calls Try.prog 4 #[] w fun e w' => e = .returned (.bool true) ∧ Below w.heap.size w w' := by
  have BX := Box6.mk' w (.string ⟨#[98]⟩) (.int .i64 1) (.int .i64 1) (.string ⟨#[]⟩) (.slice none 0 0) (.slice none 0 0)
  obtain ⟨g, hg⟩ : ∃ g, w.heap.size = g := ⟨_, rfl⟩
  obtain ⟨w1, hw1⟩ : ∃ w1, w.alloc (.cells #[.string ⟨#[98]⟩, .int .i64 1, .int .i64 1, .string ⟨#[]⟩, .slice none 0 0, .slice none 0 0] 38) = w1 := ⟨_, rfl⟩
  rw [hw1] at BX
  have CE := hide (encodeS_any es0 (some ⟨g, 0, none⟩) 1 1 w1.heap.size w1 rfl (es0_is w1 g (by rw [← hg]; exact BX.row)) (Nat.le_refl _))
  have hc : codeS es0 = 0 := by unfold codeS; rw [es0_right]; rfl
  have hb : bytesS es0 = [83, 83, 84, 49, 1, 1, 98, 2] := by unfold bytesS; rw [es0_right, es0_bytes]; rfl
  rw [hc, hb] at CE
  have HB := hide BX
  clear hc hb BX
  go_enter Try.func4, Try.ntmps4
  go_wp2_with fail
  refine (unhide CE).mono ?_
  rintro e u ⟨ao, len, cap, rfl, r1, b1, _, _⟩
  have h8 : len = 8 := r1.length.symm
  subst h8
  obtain ⟨b, off, rfl, hcc⟩ := r1.at (by omega)
  have CV : Sem.run Try.prog (convert 22 9 (.slice (some ⟨b, off, none⟩) 8 cap)) u = .ok (.string ⟨#[83, 83, 84, 49, 1, 1, 98, 2]⟩) u := by
    have := conv_row (w := u) (len := 8) (zs := [83, 83, 84, 49, 1, 1, 98, 2]) rfl hcc 0 8 cap (by omega) 0
    rw [Nat.add_zero, List.drop_zero] at this
    exact this
  have B1 := hide ((unhide HB).below.trans (b1.mono (by have := (unhide HB).size; omega)))
  clear r1 b1 hcc CE HB
  go_wp2_with fail
  go_ret
  exact ⟨rfl, unhide B1⟩
end Go.Proofs.Ytjkladljhbcelaa
