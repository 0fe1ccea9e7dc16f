/-
  The walks of measure, Right, Weight, Depth: a value's weight and depth, 0 of what is not right; no conditions but the form's own reach.
  A value's bytes as a list of numbers, how many they are at most, and that no value's bytes begin another's; no conditions.
-/
import Derived.Test.YtmnbfcpkaglniaaGreatDoorS08
import Derived.Laws.ResultCell
import Derived.Laws.EntriesVeiled
import Derived.Test.YtmnbfcpkaglniaaGreatDoorS04
set_option linter.unusedVariables false
set_option linter.unusedSimpArgs false
namespace Go.Proofs.YtmnbfcpkaglniaaGreatDoor
open Go.RowKit
/-- is it right? -/
def rightB (v : Vl) : Bool := okB 8 v && decide (wt v ≤ 2048)
def wt0 (v : Vl) : Nat := if rightB v then wt v else 0
def dep0 (v : Vl) : Nat := if rightB v then dep v else 0
theorem dep_pos (v : Vl) : 1 ≤ dep v := by cases v; simp [dep]
theorem ret_cells {fn : Func} {p q : Tmp} (h : fn.results = #[.cell p 3, .cell q 3]) (tmps : Array Value) (w : World) (gp gq : Nat) (x y : Int) (hp : tmps.getD p undef = .pointer (some ⟨gp, 0, none⟩)) (hq : tmps.getD q undef = .pointer (some ⟨gq, 0, none⟩))
    (hx : w.cell? ⟨gp, 0, none⟩ = some (.int .i64 x)) (hy : w.cell? ⟨gq, 0, none⟩ = some (.int .i64 y)) : (results fn tmps).run Tryz.prog w = .ok (.tuple #[.int .i64 x, .int .i64 y]) w := by
  have hp' : tmps[p]?.getD undef = .pointer (some ⟨gp, 0, none⟩) := by simpa using hp
  have hq' : tmps[q]?.getD undef = .pointer (some ⟨gq, 0, none⟩) := by simpa using hq
  simp only [results, h]
  go_simp
set_option maxRecDepth 100000 in
set_option maxHeartbeats 400000 in
theorem measure_any (v : Vl) (x : Value) (B : Nat) (w : World) (hv : IsV w B v x) (hBs : B ≤ w.heap.size) :
    Calls Tryz.prog 64 #[x] w fun e w' => e = .returned (.tuple #[.int .i64 (wt0 v : Int), .int .i64 (dep0 v : Int)]) ∧ Below w.heap.size w w' := by
  obtain ⟨k', n', s', l', ks', al', ak', cl', ck', hy', hx⟩ := hv.shape
  obtain ⟨ll, hll⟩ : ∃ ll, l'.length = ll := ⟨_, rfl⟩
  obtain ⟨m, hm⟩ : ∃ m, ks'.length = m := ⟨_, rfl⟩
  rw [hll, hm] at hx
  subst hx
  obtain ⟨w1, hw1⟩ : ∃ w1, w.alloc (.cells #[.int .i64 k', .int .i64 n', .string s', .slice al' ll cl', .slice ak' m ck'] 29) = w1 := ⟨_, rfl⟩
  have BX := Box.mk' w (.int .i64 k') (.int .i64 n') (.string s') (.slice al' ll cl') (.slice ak' m ck')
  rw [hw1] at BX
  obtain ⟨g, hg⟩ : ∃ g, w.heap.size = g := ⟨_, rfl⟩
  have z1 := BX.size
  rw [hg] at z1
  obtain ⟨w2, hw2⟩ : ∃ w2, w1.alloc (.cells #[.int .i64 0] 3) = w2 := ⟨_, rfl⟩
  obtain ⟨w3, hw3⟩ : ∃ w3, w2.alloc (.cells #[.int .i64 0] 3) = w3 := ⟨_, rfl⟩
  obtain ⟨w4, hw4⟩ : ∃ w4, w3.alloc (.cells #[.nilFunc] 188) = w4 := ⟨_, rfl⟩
  have z2 : w2.heap.size = g + 2 := by rw [← hw2]; simp [z1]
  have z3 : w3.heap.size = g + 3 := by rw [← hw3]; simp [z2]
  have z4 : w4.heap.size = g + 4 := by rw [← hw4]; simp [z3]
  have b12 : Below w1.heap.size w1 w2 := by rw [← hw2]; exact (Below.refl _ _).alloc (Nat.le_refl _) _
  have b23 : Below w2.heap.size w2 w3 := by rw [← hw3]; exact (Below.refl _ _).alloc (Nat.le_refl _) _
  have b34 : Below w3.heap.size w3 w4 := by rw [← hw4]; exact (Below.refl _ _).alloc (Nat.le_refl _) _
  have r2 : w2.heap[g + 1]? = some (.cells #[.int .i64 0] 3 (0, 0)) := by rw [← hw2, ← z1]; exact heap_alloc_new w1 _
  have r3 : w3.heap[g + 2]? = some (.cells #[.int .i64 0] 3 (0, 0)) := by rw [← hw3, ← z2]; exact heap_alloc_new w2 _
  have r4 : w4.heap[g + 3]? = some (.cells #[.nilFunc] 188 (0, 0)) := by rw [← hw4, ← z3]; exact heap_alloc_new w3 _
  obtain ⟨w5, hw5⟩ : ∃ w5, w4.setCell ⟨g + 3, 0, none⟩ (.func (.func 112) #[] #[.pointer (some ⟨g + 2, 0, none⟩), .pointer (some ⟨g + 1, 0, none⟩), .pointer (some ⟨g + 3, 0, none⟩)]) = w5 := ⟨_, rfl⟩
  have z5 : w5.heap.size = g + 4 := by rw [← hw5]; simp [z4]
  have S5 : St w5 (g + 2) (g + 1) (g + 3) ((0 : Nat) : Int) ((0 : Nat) : Int) := by
    refine ⟨?_, ?_, ?_⟩
    · rw [← hw5, heap_setCell_other _ _ _ _ (by simp), b34.block _ (by omega)]; exact r3
    · rw [← hw5, heap_setCell_other _ _ _ _ (by simp), b34.block _ (by omega), b23.block _ (by omega)]; exact r2
    · rw [← hw5, heap_setCell_same w4 (g + 3) 0 _ _ _ r4]; rfl
  have P5 : Pl w5 g (g + 2) (g + 1) (g + 3) := ⟨by omega, by omega, by omega, by omega, by omega, by omega, by omega, by omega, by omega⟩
  have X5 : Below g w w5 := by
    have h := ((BX.below.trans (b12.mono (by omega))).trans (b23.mono (by omega))).trans (b34.mono (by omega))
    rw [hg] at h
    rw [← hw5]
    exact h.setCell (p := ⟨g + 3, 0, none⟩) (by show g ≤ g + 3; omega) _
  have R5 : w5.heap[g]? = some (.cells #[.int .i64 k', .int .i64 n', .string s', .slice al' ll cl', .slice ak' m ck'] 29 (0, 0)) := by
    rw [← hw5, heap_setCell_other _ _ _ _ (by simp), b34.block _ (by omega), b23.block _ (by omega), b12.block _ (by omega), ← hg]
    exact BX.row
  have q4 : w4.cell? ⟨g + 3, 0, none⟩ = some .nilFunc := (one_cell r4).1
  have f4 : w4.frozen? ⟨g + 3, 0, none⟩ = false := (one_cell r4).2
  have qr : w5.cell? ⟨g + 3, 0, none⟩ = some (.func (.func 112) #[] #[.pointer (some ⟨g + 2, 0, none⟩), .pointer (some ⟨g + 1, 0, none⟩), .pointer (some ⟨g + 3, 0, none⟩)]) := (one_cell S5.fn).1
  obtain ⟨c0, c1, c2, c3, c4⟩ := row_cell R5
  have CI := hide (right_any 8 v _ 1 0 0 g (g + 2) (g + 1) (g + 3) w5 (by omega) (by omega) ((hv.lift (by omega)).mono X5) (by omega) P5 S5 (by omega))
  have H := hide (And.intro P5 (And.intro X5 hy'))
  clear BX b12 b23 b34 r2 r3 r4 S5 P5 X5 R5 hv hy'
  rw [hg]
  simp only [Nat.zero_add] at CI
  obtain ⟨R, hR⟩ : ∃ R, (okB 8 v && decide (wt v ≤ 2048)) = R := ⟨_, rfl⟩
  rw [hR] at CI
  have HR := hide hR
  clear hR
  go_enter Tryz.func64, Tryz.ntmps64
  go_wp2_with fail
  refine (unhide CI).mono ?_
  rintro e w6 ⟨d', s', rfl, s6, b6, hok⟩
  have S6 := hide s6
  have X6 : Hid (Below g w w6) := hide ((unhide H).2.1.trans b6)
  have P6 : Hid (Pl w6 g (g + 2) (g + 1) (g + 3)) := hide ((unhide H).1.later b6.size)
  have HO := hide hok
  obtain ⟨qd, fd⟩ := one_cell s6.dep
  obtain ⟨qw, fw⟩ := one_cell s6.wgt
  clear s6 b6 hok CI c0 c1 c2 c3 c4 qr q4 f4 hw1 hw2 hw3 hw4 hw5
  cases R with
  | false =>
    have S7 := hide (((unhide S6).setW (unhide P6) 0).setD ((unhide P6).later (by simp)) 0)
    have X7 := hide (((unhide X6).setCell (p := ⟨g + 1, 0, none⟩) (by show g ≤ g + 1; omega) (.int .i64 0)).setCell (p := ⟨g + 2, 0, none⟩) (by show g ≤ g + 2; omega) (.int .i64 0))
    have hr : rightB v = false := unhide HR
    have HZ : Hid (wt0 v = 0 ∧ dep0 v = 0) := hide (by unfold wt0 dep0; rw [hr]; exact ⟨rfl, rfl⟩)
    clear hr
    go_wp2_with fail
    refine bodyPost_ret (ret_cells rfl _ _ (g + 1) (g + 2) 0 0 rfl rfl (one_cell (unhide S7).wgt).1 (one_cell (unhide S7).dep).1) rfl ⟨by rw [(unhide HZ).1, (unhide HZ).2]; rfl, unhide X7⟩
  | true =>
    obtain ⟨es, ed⟩ := unhide HO rfl
    subst es
    subst ed
    go_wp2_with fail
    go_region
    have hr : rightB v = true := unhide HR
    have HZ : Hid (wt0 v = wt v ∧ dep0 v = dep v) := hide (by unfold wt0 dep0; rw [hr]; exact ⟨rfl, rfl⟩)
    obtain ⟨W, hW⟩ : ∃ W : Nat, wt v = W := ⟨_, rfl⟩
    obtain ⟨D, hD⟩ : ∃ D : Nat, dep v = D := ⟨_, rfl⟩
    rw [hW, hD] at HZ
    rw [hW, hD]
    have S7 := hide (((unhide S6).setW (unhide P6) (W : Int)).setD ((unhide P6).later (by simp)) (D : Int))
    have X7 := hide ((((unhide X6).setCell (p := ⟨g + 1, 0, none⟩) (by show g ≤ g + 1; omega) (.int .i64 (W : Int))).setCell (p := ⟨g + 2, 0, none⟩) (by show g ≤ g + 2; omega) (.int .i64 (D : Int))).drew)
    clear hr HO S6
    go_wp2_with fail
    refine bodyPost_ret (ret_cells rfl _ _ (g + 1) (g + 2) (W : Int) (D : Int) rfl rfl (one_cell (unhide S7).wgt).1 (one_cell (unhide S7).dep).1) rfl ⟨by rw [(unhide HZ).1, (unhide HZ).2], unhide X7⟩
/-- a text with its length ahead -/
def tx (s : ByteArray) : List Int := encF 9 (s.size : Int) ++ nums s
/-- the i-th key, or none -/
def keyAt : List ByteArray → Nat → ByteArray
  | [], _ => ⟨#[]⟩
  | t :: _, 0 => t
  | _ :: r, i + 1 => keyAt r i
theorem keyAt_of : ∀ (ks : List ByteArray) (i : Nat) (t : ByteArray), ks[i]? = some t → keyAt ks i = t
  | [], i, t, h => by simp at h
  | _ :: _, 0, t, h => by simpa [keyAt] using h
  | _ :: r, i + 1, t, h => keyAt_of r i t (by simpa using h)
theorem keyAt_tail (ks : List ByteArray) (i : Nat) : keyAt ks.tail i = keyAt ks (i + 1) := by cases ks <;> rfl
/-- a head's bytes, those of what stands within settled -/
def encN (k n : Int) (s : ByteArray) (len : Nat) (body : List Int) : List Int :=
  if k = 0 then [0] else if k = 1 then [1 + n] else if k = 2 then 3 :: encF 9 (foldI n) else if k = 3 then 4 :: tx s
  else if k = 4 then 5 :: (encF 9 (len : Int) ++ body) else if k = 5 then 6 :: (encF 9 (len : Int) ++ body) else []
def wencL : Bool → List Vl → List ByteArray → List Int
  | _, [], _ => []
  | r, .mk k n s l q :: xs, ks => (if r = true then tx (keyAt ks 0) else []) ++ encN k n s l.length (wencL (decide (k = 5)) l q) ++ wencL r xs ks.tail
def wenc : Vl → List Int
  | .mk k n s l ks => encN k n s l.length (wencL (decide (k = 5)) l ks)
theorem wencL_nil (r : Bool) (ks : List ByteArray) : wencL r [] ks = [] := by simp only [wencL]
theorem wencL_cons (r : Bool) (x : Vl) (xs : List Vl) (ks : List ByteArray) : wencL r (x :: xs) ks = (if r = true then tx (keyAt ks 0) else []) ++ wenc x ++ wencL r xs ks.tail := by
  cases x
  simp only [wencL, wenc]
theorem wencL_next (r : Bool) : ∀ (l : List Vl) (ks : List ByteArray) (i : Nat) (x : Vl), l[i]? = some x →
    wencL r (l.take (i + 1)) ks = wencL r (l.take i) ks ++ (if r = true then tx (keyAt ks i) else []) ++ wenc x
  | [], _, i, x, h => by simp at h
  | y :: l, ks, 0, x, h => by
    simp at h
    subst h
    simp [wencL_cons, wencL_nil]
  | y :: l, ks, i + 1, x, h => by
    have ih := wencL_next r l ks.tail i x (by simpa using h)
    rw [List.take_succ_cons, List.take_succ_cons, wencL_cons, wencL_cons, ih]
    rw [keyAt_tail]
    simp only [List.append_assoc]
theorem tx_len (s : ByteArray) : (tx s).length ≤ 10 + s.size := by
  unfold tx
  have := encF_len 9 (s.size : Int)
  have := nums_len s
  rw [List.length_append]
  omega
theorem tx_pos (s : ByteArray) : 1 ≤ (tx s).length := by
  unfold tx
  have := encF_len 9 (s.size : Int)
  rw [List.length_append]
  omega
theorem size_head (ks : List ByteArray) : (keyAt ks 0).size + keysW ks.tail ≤ keysW ks := by
  cases ks with
  | nil => exact Nat.le_refl 0
  | cons t r => simp [keysW, keyAt]
theorem encN_len (k n : Int) (s : ByteArray) (len : Nat) (body : List Int) : (encN k n s len body).length + 10 ≤ 21 + 21 * s.size + body.length := by
  have h1 := encF_len 9 (foldI n)
  have h2 := encF_len 9 (len : Int)
  have h3 := tx_len s
  unfold encN
  repeat' split
  all_goals (simp only [List.length_cons, List.length_append, List.length_nil]; omega)
theorem wencL_len : ∀ (r : Bool) (l : List Vl) (ks : List ByteArray), (wencL r l ks).length ≤ 21 * wtL l + keysW ks
  | _, [], _ => by simp [wencL_nil]
  | r, .mk k n s l q :: xs, ks => by
    have h0 := wencL_len (decide (k = 5)) l q
    have h1 := encN_len k n s l.length (wencL (decide (k = 5)) l q)
    have h2 := wencL_len r xs ks.tail
    have h3 := size_head ks
    have h4 := tx_len (keyAt ks 0)
    rw [wencL_cons, wtL_cons]
    simp only [wenc, wt]
    cases r <;> simp <;> omega
/-- a value's bytes are few, by its weight -/
theorem wenc_len (v : Vl) : (wenc v).length + 10 ≤ 21 * wt v := by
  cases v with
  | mk k n s l ks =>
    have h0 := wencL_len (decide (k = 5)) l ks
    have h1 := encN_len k n s l.length (wencL (decide (k = 5)) l ks)
    simp only [wenc, wt]
    omega
theorem encF_split (f : Nat) : ∀ (n m : Int) (r1 r2 : List Int), encF f n ++ r1 = encF f m ++ r2 → n = m ∧ r1 = r2 := by
  induction f with
  | zero => intro n m r1 r2 h; simpa [encF] using h
  | succ f ih =>
    intro n m r1 r2 h
    simp only [encF] at h
    by_cases hn : n < 128
    · by_cases hm : m < 128
      · simpa [hn, hm] using h
      · simp [hn, hm] at h; omega
    · by_cases hm : m < 128
      · simp [hn, hm] at h; omega
      · simp only [hn, hm, if_false, List.cons_append, List.cons.injEq] at h
        obtain ⟨e, h⟩ := ih _ _ _ _ h.2
        refine ⟨by omega, h⟩
theorem nums_inj (s t : ByteArray) (h : nums s = nums t) : s = t := by
  rw [← nums_str s, ← nums_str t, h]
theorem nums_split (s t : ByteArray) (r1 r2 : List Int) (hs : s.size = t.size) (h : nums s ++ r1 = nums t ++ r2) : s = t ∧ r1 = r2 := by
  have hl : (nums s).length = (nums t).length := by rw [nums_len, nums_len, hs]
  obtain ⟨e, h⟩ := List.append_inj h hl
  exact ⟨nums_inj s t e, h⟩
theorem tx_split (s t : ByteArray) (r1 r2 : List Int) (h : tx s ++ r1 = tx t ++ r2) : s = t ∧ r1 = r2 := by
  unfold tx at h
  rw [List.append_assoc, List.append_assoc] at h
  obtain ⟨e, h⟩ := encF_split 9 _ _ _ _ h
  exact nums_split s t r1 r2 (by omega) h
theorem empty_of {s : ByteArray} (h : s.toList = []) : s = ⟨#[]⟩ := by
  apply Go.WideShapes.bytes_inj
  rw [← ByteArray.toList_eq, h]
theorem foldI_inj {a b : Int} (h : foldI a = foldI b) : a = b := by
  unfold foldI at h
  split at h <;> split at h <;> omega
/-- what a right value's form says of what its kind does not use -/
theorem form_zero {k n : Int} {s : ByteArray} {ll : Nat} {ks : List ByteArray} (h : formB k n s ll ks = true) :
    (k = 0 ∧ n = 0 ∧ s = ⟨#[]⟩ ∧ ll = 0 ∧ ks = []) ∨ (k = 1 ∧ (n = 0 ∨ n = 1) ∧ s = ⟨#[]⟩ ∧ ll = 0 ∧ ks = []) ∨ (k = 2 ∧ s = ⟨#[]⟩ ∧ ll = 0 ∧ ks = []) ∨ (k = 3 ∧ n = 0 ∧ ll = 0 ∧ ks = []) ∨
      (k = 4 ∧ n = 0 ∧ s = ⟨#[]⟩ ∧ ks = []) ∨ (k = 5 ∧ n = 0 ∧ s = ⟨#[]⟩ ∧ ks.length = ll ∧ risingFrom none ks = true) := by
  unfold formB formM at h
  split at h
  · rename_i e
    simp at h
    exact Or.inl ⟨e, h.1.1.1, empty_of h.1.1.2, h.1.2, h.2⟩
  split at h
  · rename_i _ e
    simp at h
    exact Or.inr (Or.inl ⟨e, h.1.1.1, empty_of h.1.1.2, h.1.2, h.2⟩)
  split at h
  · rename_i _ _ e
    simp at h
    exact Or.inr (Or.inr (Or.inl ⟨e, empty_of h.1.1, h.1.2, h.2⟩))
  split at h
  · rename_i _ _ _ e
    simp at h
    exact Or.inr (Or.inr (Or.inr (Or.inl ⟨e, h.1.1, h.1.2, h.2⟩)))
  split at h
  · rename_i _ _ _ _ e
    simp at h
    exact Or.inr (Or.inr (Or.inr (Or.inr (Or.inl ⟨e, h.1.1, empty_of h.1.2, h.2⟩))))
  split at h
  · rename_i _ _ _ _ _ e
    simp at h
    exact Or.inr (Or.inr (Or.inr (Or.inr (Or.inr ⟨e, h.1.1.1, empty_of h.1.1.2, h.1.2, h.2⟩))))
  · cases h
theorem wenc0 (n : Int) (s : ByteArray) (l : List Vl) (ks : List ByteArray) : wenc (.mk 0 n s l ks) = [0] := by simp [wenc, encN]
theorem wenc1 (n : Int) (s : ByteArray) (l : List Vl) (ks : List ByteArray) : wenc (.mk 1 n s l ks) = [1 + n] := by simp [wenc, encN]
theorem wenc2 (n : Int) (s : ByteArray) (l : List Vl) (ks : List ByteArray) : wenc (.mk 2 n s l ks) = 3 :: encF 9 (foldI n) := by simp [wenc, encN]
theorem wenc3 (n : Int) (s : ByteArray) (l : List Vl) (ks : List ByteArray) : wenc (.mk 3 n s l ks) = 4 :: tx s := by simp [wenc, encN]
theorem wenc4 (n : Int) (s : ByteArray) (l : List Vl) (ks : List ByteArray) : wenc (.mk 4 n s l ks) = 5 :: (encF 9 (l.length : Int) ++ wencL false l ks) := by simp [wenc, encN]
theorem wenc5 (n : Int) (s : ByteArray) (l : List Vl) (ks : List ByteArray) : wenc (.mk 5 n s l ks) = 6 :: (encF 9 (l.length : Int) ++ wencL true l ks) := by simp [wenc, encN]
theorem wenc_split_of {k n : Int} {s : ByteArray} {l : List Vl} {ks : List ByteArray} {k' n' : Int} {s' : ByteArray} {l' : List Vl} {ks' : List ByteArray} {d d' : Nat} {r1 r2 : List Int}
    (hr : ∀ (r : Bool) (r1 r2 : List Int), okL d l = true → okL d' l' = true → l.length = l'.length → (r = true → ks.length = l.length ∧ ks'.length = l'.length) → wencL r l ks ++ r1 = wencL r l' ks' ++ r2 → l = l' ∧ (r = true → ks = ks') ∧ r1 = r2)
    (ha : formB k n s l.length ks = true ∧ okL d l = true) (hb : formB k' n' s' l'.length ks' = true ∧ okL d' l' = true) (h : wenc (.mk k n s l ks) ++ r1 = wenc (.mk k' n' s' l' ks') ++ r2) : Vl.mk k n s l ks = .mk k' n' s' l' ks' ∧ r1 = r2 := by
  focus
    have e0 : ∀ x : List Vl, x.length = 0 → x = [] := fun x h => List.eq_nil_of_length_eq_zero h
    rcases form_zero ha.1 with ⟨rfl, rfl, rfl, z, rfl⟩ | ⟨rfl, hn, rfl, z, rfl⟩ | ⟨rfl, rfl, z, rfl⟩ | ⟨rfl, rfl, z, rfl⟩ | ⟨rfl, rfl, rfl, rfl⟩ | ⟨rfl, rfl, rfl, z, _⟩
    · rcases form_zero hb.1 with ⟨rfl, rfl, rfl, z', rfl⟩ | ⟨rfl, hn', rfl, z', rfl⟩ | ⟨rfl, rfl, z', rfl⟩ | ⟨rfl, rfl, z', rfl⟩ | ⟨rfl, rfl, rfl, rfl⟩ | ⟨rfl, rfl, rfl, z', _⟩
      · rw [wenc0, wenc0] at h; rw [e0 l z, e0 l' z']; exact ⟨rfl, (List.cons.inj h).2⟩
      · rw [wenc0, wenc1] at h; have := (List.cons.inj h).1; omega
      · rw [wenc0, wenc2] at h; have := (List.cons.inj h).1; omega
      · rw [wenc0, wenc3] at h; have := (List.cons.inj h).1; omega
      · rw [wenc0, wenc4] at h; have := (List.cons.inj h).1; omega
      · rw [wenc0, wenc5] at h; have := (List.cons.inj h).1; omega
    · rcases form_zero hb.1 with ⟨rfl, rfl, rfl, z', rfl⟩ | ⟨rfl, hn', rfl, z', rfl⟩ | ⟨rfl, rfl, z', rfl⟩ | ⟨rfl, rfl, z', rfl⟩ | ⟨rfl, rfl, rfl, rfl⟩ | ⟨rfl, rfl, rfl, z', _⟩
      · rw [wenc1, wenc0] at h; have := (List.cons.inj h).1; omega
      · rw [wenc1, wenc1] at h; obtain rfl : n = n' := by have := (List.cons.inj h).1; omega
        rw [e0 l z, e0 l' z']; exact ⟨rfl, (List.cons.inj h).2⟩
      · rw [wenc1, wenc2] at h; have := (List.cons.inj h).1; omega
      · rw [wenc1, wenc3] at h; have := (List.cons.inj h).1; omega
      · rw [wenc1, wenc4] at h; have := (List.cons.inj h).1; omega
      · rw [wenc1, wenc5] at h; have := (List.cons.inj h).1; omega
    · rcases form_zero hb.1 with ⟨rfl, rfl, rfl, z', rfl⟩ | ⟨rfl, hn', rfl, z', rfl⟩ | ⟨rfl, rfl, z', rfl⟩ | ⟨rfl, rfl, z', rfl⟩ | ⟨rfl, rfl, rfl, rfl⟩ | ⟨rfl, rfl, rfl, z', _⟩
      · rw [wenc2, wenc0] at h; have := (List.cons.inj h).1; omega
      · rw [wenc2, wenc1] at h; have := (List.cons.inj h).1; omega
      · rw [wenc2, wenc2] at h; obtain ⟨e, h⟩ := encF_split 9 _ _ _ _ (List.cons.inj h).2
        rw [e0 l z, e0 l' z', foldI_inj e]; exact ⟨rfl, h⟩
      · rw [wenc2, wenc3] at h; have := (List.cons.inj h).1; omega
      · rw [wenc2, wenc4] at h; have := (List.cons.inj h).1; omega
      · rw [wenc2, wenc5] at h; have := (List.cons.inj h).1; omega
    · rcases form_zero hb.1 with ⟨rfl, rfl, rfl, z', rfl⟩ | ⟨rfl, hn', rfl, z', rfl⟩ | ⟨rfl, rfl, z', rfl⟩ | ⟨rfl, rfl, z', rfl⟩ | ⟨rfl, rfl, rfl, rfl⟩ | ⟨rfl, rfl, rfl, z', _⟩
      · rw [wenc3, wenc0] at h; have := (List.cons.inj h).1; omega
      · rw [wenc3, wenc1] at h; have := (List.cons.inj h).1; omega
      · rw [wenc3, wenc2] at h; have := (List.cons.inj h).1; omega
      · rw [wenc3, wenc3] at h; obtain ⟨e, h⟩ := tx_split _ _ _ _ (List.cons.inj h).2
        rw [e0 l z, e0 l' z', e]; exact ⟨rfl, h⟩
      · rw [wenc3, wenc4] at h; have := (List.cons.inj h).1; omega
      · rw [wenc3, wenc5] at h; have := (List.cons.inj h).1; omega
    · rcases form_zero hb.1 with ⟨rfl, rfl, rfl, z', rfl⟩ | ⟨rfl, hn', rfl, z', rfl⟩ | ⟨rfl, rfl, z', rfl⟩ | ⟨rfl, rfl, z', rfl⟩ | ⟨rfl, rfl, rfl, rfl⟩ | ⟨rfl, rfl, rfl, z', _⟩
      · rw [wenc4, wenc0] at h; have := (List.cons.inj h).1; omega
      · rw [wenc4, wenc1] at h; have := (List.cons.inj h).1; omega
      · rw [wenc4, wenc2] at h; have := (List.cons.inj h).1; omega
      · rw [wenc4, wenc3] at h; have := (List.cons.inj h).1; omega
      · rw [wenc4, wenc4, List.cons_append, List.cons_append] at h
        have h := (List.cons.inj h).2
        rw [List.append_assoc, List.append_assoc] at h
        obtain ⟨e, h⟩ := encF_split 9 _ _ _ _ h
        obtain ⟨e1, _, h⟩ := hr false _ _ ha.2 hb.2 (by omega) (fun e => by cases e) h
        rw [e1]; exact ⟨rfl, h⟩
      · rw [wenc4, wenc5] at h; have := (List.cons.inj h).1; omega
    · rcases form_zero hb.1 with ⟨rfl, rfl, rfl, z', rfl⟩ | ⟨rfl, hn', rfl, z', rfl⟩ | ⟨rfl, rfl, z', rfl⟩ | ⟨rfl, rfl, z', rfl⟩ | ⟨rfl, rfl, rfl, rfl⟩ | ⟨rfl, rfl, rfl, z', _⟩
      · rw [wenc5, wenc0] at h; have := (List.cons.inj h).1; omega
      · rw [wenc5, wenc1] at h; have := (List.cons.inj h).1; omega
      · rw [wenc5, wenc2] at h; have := (List.cons.inj h).1; omega
      · rw [wenc5, wenc3] at h; have := (List.cons.inj h).1; omega
      · rw [wenc5, wenc4] at h; have := (List.cons.inj h).1; omega
      · rw [wenc5, wenc5, List.cons_append, List.cons_append] at h
        have h := (List.cons.inj h).2
        rw [List.append_assoc, List.append_assoc] at h
        obtain ⟨e, h⟩ := encF_split 9 _ _ _ _ h
        obtain ⟨e1, e2, h⟩ := hr true _ _ ha.2 hb.2 (by omega) (fun _ => ⟨z, z'⟩) h
        rw [e1, e2 rfl]; exact ⟨rfl, h⟩
theorem wencL_split : ∀ (r : Bool) (l : List Vl) (ks : List ByteArray) (l' : List Vl) (ks' : List ByteArray) (d d' : Nat) (r1 r2 : List Int), okL d l = true → okL d' l' = true → l.length = l'.length → (r = true → ks.length = l.length ∧ ks'.length = l'.length) → wencL r l ks ++ r1 = wencL r l' ks' ++ r2 → l = l' ∧ (r = true → ks = ks') ∧ r1 = r2
  | r, [], ks, [], ks', d, d', r1, r2, _, _, _, hk, h => by
    refine ⟨rfl, fun e => ?_, by simpa [wencL_nil] using h⟩
    rw [List.eq_nil_of_length_eq_zero (hk e).1, List.eq_nil_of_length_eq_zero (hk e).2]
  | r, [], ks, _ :: _, ks', d, d', r1, r2, _, _, hl, _, h => by simp at hl
  | r, _ :: _, ks, [], ks', d, d', r1, r2, _, _, hl, _, h => by simp at hl
  | r, .mk k n s l q :: xs, ks, .mk k' n' s' l' q' :: ys, ks', 0, d', r1, r2, hx, hy, hl, hk, h => by simp [okL] at hx
  | r, .mk k n s l q :: xs, ks, .mk k' n' s' l' q' :: ys, ks', d + 1, 0, r1, r2, hx, hy, hl, hk, h => by simp [okL] at hy
  | r, .mk k n s l q :: xs, ks, .mk k' n' s' l' q' :: ys, ks', d + 1, d' + 1, r1, r2, hx, hy, hl, hk, h => by
    have ih := fun (r : Bool) (r1 r2 : List Int) => wencL_split r l q l' q' d d' r1 r2
    have ih2 := fun (ks ks' : List ByteArray) (r1 r2 : List Int) => wencL_split r xs ks ys ks' (d + 1) (d' + 1) r1 r2
    rw [okL_cons, Bool.and_eq_true] at hx hy
    have hx1 := hx.1
    have hy1 := hy.1
    simp only [okB, Bool.and_eq_true] at hx1 hy1
    rw [wencL_cons, wencL_cons] at h
    simp only [List.append_assoc] at h
    cases r with
    | false =>
      simp only [Bool.false_eq_true, if_false, List.nil_append] at h
      obtain ⟨e, h⟩ := wenc_split_of ih hx1 hy1 h
      obtain ⟨e1, _, h⟩ := ih2 ks.tail ks'.tail _ _ hx.2 hy.2 (by simpa using hl) (fun e => by cases e) h
      exact ⟨by rw [e, e1], (fun e => by cases e), h⟩
    | true =>
      obtain ⟨k1, k2⟩ := hk rfl
      cases ks with
      | nil => simp at k1
      | cons t ks =>
        cases ks' with
        | nil => simp at k2
        | cons t' ks' =>
          rw [if_pos rfl, if_pos rfl] at h
          obtain ⟨e0, h⟩ := tx_split _ _ _ _ h
          obtain ⟨e, h⟩ := wenc_split_of ih hx1 hy1 h
          obtain ⟨e1, e2, h⟩ := ih2 ks ks' _ _ hx.2 hy.2 (by simpa using hl) (fun _ => ⟨by simpa using k1, by simpa using k2⟩) h
          have e0' : t = t' := e0
          exact ⟨by rw [e, e1], (fun _ => by rw [e0', e2 rfl]), h⟩
/-- bytes tell their value, whatever stands behind -/
theorem wenc_split (a b : Vl) (d d' : Nat) (r1 r2 : List Int) (ha : okB d a = true) (hb : okB d' b = true) (h : wenc a ++ r1 = wenc b ++ r2) : a = b ∧ r1 = r2 := by
  cases a with
  | mk k n s l ks =>
    cases b with
    | mk k' n' s' l' ks' =>
      cases d with
      | zero => simp [okB] at ha
      | succ d =>
        cases d' with
        | zero => simp [okB] at hb
        | succ d' =>
          simp only [okB, Bool.and_eq_true] at ha hb
          exact wenc_split_of (fun r r1 r2 => wencL_split r l ks l' ks' d d' r1 r2) ha hb h
/-! ### Are two values the same? -/
def sameL : List Vl → List Vl → Bool
  | [], _ => true
  | _ :: _, [] => true
  | .mk k n s l q :: xs, .mk k' n' s' l' q' :: ys => (decide (k = k') && decide (n = n') && (s.toList == s'.toList) && decide (l.length = l'.length) && decide (q = q') && sameL l l') && sameL xs ys
def sameB : Vl → Vl → Bool
  | .mk k n s l ks, .mk k' n' s' l' ks' => decide (k = k') && decide (n = n') && (s.toList == s'.toList) && decide (l.length = l'.length) && decide (ks = ks') && sameL l l'
theorem sameL_nil (l : List Vl) : sameL [] l = true := by simp only [sameL]
theorem sameL_cons (x : Vl) (xs : List Vl) (y : Vl) (ys : List Vl) : sameL (x :: xs) (y :: ys) = (sameB x y && sameL xs ys) := by
  cases x
  cases y
  simp only [sameL, sameB]
theorem bytes_beq (a b : ByteArray) : (a.toList == b.toList) = true ↔ a = b := by
  rw [beq_iff_eq, ByteArray.toList_eq, ByteArray.toList_eq]
  exact ⟨Go.WideShapes.bytes_inj, fun h => by rw [h]⟩
theorem sameB_iff_of {k n : Int} {s : ByteArray} {l : List Vl} {ks : List ByteArray} {k' n' : Int} {s' : ByteArray} {l' : List Vl} {ks' : List ByteArray} (h : l.length = l'.length → (sameL l l' = true ↔ l = l')) : sameB (.mk k n s l ks) (.mk k' n' s' l' ks') = true ↔ Vl.mk k n s l ks = .mk k' n' s' l' ks' := by
  simp only [sameB, Bool.and_eq_true, decide_eq_true_eq, bytes_beq, Vl.mk.injEq]
  constructor
  · rintro ⟨⟨⟨⟨⟨h1, h2⟩, h3⟩, h4⟩, h5⟩, h6⟩
    exact ⟨h1, h2, h3, (h h4).1 h6, h5⟩
  · rintro ⟨h1, h2, h3, h4, h5⟩
    exact ⟨⟨⟨⟨⟨h1, h2⟩, h3⟩, by rw [h4]⟩, h5⟩, (h (by rw [h4])).2 h4⟩
theorem sameL_iff : ∀ (l l' : List Vl), l.length = l'.length → (sameL l l' = true ↔ l = l')
  | [], [], _ => by simp [sameL_nil]
  | [], _ :: _, h => by simp at h
  | _ :: _, [], h => by simp at h
  | .mk k n s l q :: xs, .mk k' n' s' l' q' :: ys, h => by
    have h1 := sameB_iff_of (k := k) (n := n) (s := s) (ks := q) (k' := k') (n' := n') (s' := s') (ks' := q') (sameL_iff l l')
    have h2 := sameL_iff xs ys (by simpa using h)
    rw [sameL_cons, Bool.and_eq_true, h1, h2, List.cons.injEq]
theorem sameB_iff (a b : Vl) : sameB a b = true ↔ a = b := by
  cases a
  cases b
  exact sameB_iff_of (sameL_iff _ _)
end Go.Proofs.YtmnbfcpkaglniaaGreatDoor
