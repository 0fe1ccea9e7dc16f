/-
  The walks of PutUint, PutInt behind no bytes, and small facts on texts made of bytes; no conditions.
-/
import Derived.Test.YtgkmdjmigehmeaaGreatDoorR04
import Derived.Laws.BytesArg
import Derived.Deep.QuietTactic
import Derived.BigQuiet
import Derived.WalkSmall
import Derived.Lib.AppendStr
import Derived.Laws.AppendOwnNone
import Derived.Test.YtgkmdjmigehmeaaGreatDoorR02
import Derived.WalkSpells
import Derived.Deep.AppendLies
import Derived.OwnWalk
import Derived.Test.YtgkmdjmigehmeaaGreatDoorR00
import Derived.Laws.AppendOwn
import Derived.ArgAppend
namespace Go.Proofs.YtgkmdjmigehmeaaGreatDoor
set_option linter.unusedVariables false
set_option linter.unusedSimpArgs false
set_option maxRecDepth 100000
set_option maxHeartbeats 16000000
open Go.RowKit
theorem nilRow (w : World) : Row8 w none 0 0 [] := ⟨rfl, fun _ => ⟨rfl, rfl⟩, (fun ad h => by cases h), (fun n h => by cases h), Nat.le_refl _⟩
theorem putUint_nil (n : Int) (w : World) (h0 : 0 ≤ n) (h1 : n ≤ 18446744073709551615) :
  Calls Tryz.prog 146 #[.slice none 0 0, .int .u64 n] w fun e w' => e = .returned (.slice (some ⟨w.heap.size, 0, none⟩) (encF 9 n).length 10) ∧
   Row8 w' (some ⟨w.heap.size, 0, none⟩) (encF 9 n).length 10 (encF 9 n) ∧ Below w.heap.size w w' := by
 refine (putUint_any none 0 0 n [] w (nilRow w) (by decide) h0 h1).mono ?_
 rintro e w' ⟨rfl, hown, hb⟩
 simp only [Nat.zero_add, List.nil_append] at *
 exact ⟨trivial, Row8.own hown (encF9_bytes n h0 h1), hb⟩
theorem putInt_nil (n : Int) (w : World) (h0 : -9223372036854775808 ≤ n) (h1 : n ≤ 9223372036854775807) :
  Calls Tryz.prog 123 #[.slice none 0 0, .int .i64 n] w fun e w' => e = .returned (.slice (some ⟨w.heap.size, 0, none⟩) (encF 9 (foldI n)).length 10) ∧
   Row8 w' (some ⟨w.heap.size, 0, none⟩) (encF 9 (foldI n)).length 10 (encF 9 (foldI n)) ∧ Below w.heap.size w w' := by
 have f0 : 0 ≤ foldI n := by unfold foldI; split <;> omega
 have f1 : foldI n ≤ 18446744073709551615 := by unfold foldI; split <;> omega
 refine (putInt_any none 0 0 n [] w (nilRow w) (by decide) h0 h1).mono ?_
 rintro e w' ⟨rfl, hown, hb⟩
 simp only [Nat.zero_add, List.nil_append] at *
 exact ⟨trivial, Row8.own hown (encF9_bytes _ f0 f1), hb⟩
theorem conv_row {w : World} {b off : Nat} {len : Nat} {zs : List Int} (hz : zs.length = len) (hc : ∀ j, j < len → w.cell? ⟨b, off + j, none⟩ = some (.int .u8 (zs.getD j 0))) (i n cap : Nat) (hi : i + n ≤ len) :
  ∀ q, Sem.run Tryz.prog (convert 40 9 (.slice (some ⟨b, off + i, none⟩) n cap)) (w.drewN q) = .ok (.string (strOfNums ((zs.drop i).take n))) (w.drewN q) := by
 intro q
 refine run_convert_bytes_arg (P := Tryz.prog) (w.drewN q) 40 5 Tryz.underlying40 Tryz.underlying5 b (off + i) n cap _ (by simp; omega) ?_ 9 Tryz.underlying9
 intro j hj
 have h := hc (i + j) (by omega)
 rw [← Nat.add_assoc] at h
 have e : ((zs.drop i).take n).getD j 0 = zs.getD (i + j) 0 := by simp [List.getD, List.getElem?_drop, hj]
 rw [e]
 simpa using h
def nums (s : ByteArray) : List Int := s.data.toList.map fun b => (b.toNat : Int)
theorem nums_len (s : ByteArray) : (nums s).length = s.size := by
 unfold nums; rw [List.length_map, Array.length_toList]; rfl
theorem nums_cells (s : ByteArray) : Lib.strCells s = (nums s).map (Value.int .u8) := by
 unfold nums Lib.strCells; rw [List.map_map]; rfl
theorem nums_small (s : ByteArray) : ∀ n ∈ nums s, 0 ≤ n ∧ n ≤ 255 := by
 intro n hn
 unfold nums at hn
 obtain ⟨b, _, rfl⟩ := List.mem_map.1 hn
 have := b.toNat_lt
 omega
theorem own_form {w : World} {base : Nat} {v : Value} {n : Nat} {xs : List Value} (h : w.ownsRow base 5 1 v n xs) (hn : 0 < n) : ∃ g cap, v = .slice (some ⟨g, 0, none⟩) n cap ∧ base ≤ g := by
 rcases h.2 with ⟨_, e⟩ | ⟨g, cap, cur, e, hb, _⟩
 ·omega
 ·exact ⟨g, cap, e, hb⟩
theorem withRoom_int (ao : Option Addr) (len cap r : Nat) (R : Int) (hR : R = (r : Int)) (zs : List Int) (w : World) (hr : Row8 w ao len cap zs) (hm : len + r ≤ 281474976710656) :
  Calls Tryz.prog 149 #[.slice ao len cap, .int .i64 R] w fun e w' => e = .returned (.slice (some ⟨w.heap.size, 0, none⟩) len (len + r)) ∧
   w'.ownsRow w.heap.size 5 1 (.slice (some ⟨w.heap.size, 0, none⟩) len (len + r)) len (zs.map (Value.int .u8)) ∧ Below w.heap.size w w' := by
 subst hR
 exact withRoom_any ao len cap r zs w hr hm
theorem app_string {w : World} {ops : Array Oper} {rest : List Oper} {o : Oper} {a : Act} {Q : Exit → Act → World → Prop} (hgd : o.guard = none) (sl x : Operand)
  (ho : o.op = .call { callee := .builtin .append, args := #[sl, x], argTypes := #[40, 9] })
  (base g n cap : Nat) (xs : List Value) (hs : a.eval sl = .slice (some ⟨g, 0, none⟩) n cap) (hown : w.ownsRow base 5 1 (.slice (some ⟨g, 0, none⟩) n cap) n xs) (hn : 0 < n) (s : ByteArray) (hx : a.eval x = .string s)
  (hbytes : n + s.size ≤ 140737488355328) (hbase : base ≤ w.heap.size)
  (h : ∀ g' cap' w', base ≤ g' → w'.ownsRow base 5 1 (.slice (some ⟨g', 0, none⟩) (n + s.size) cap') (n + s.size) (xs ++ (nums s).map (Value.int .u8)) → w.grownBy w' (some g) → wpList Tryz.prog ops Q rest (a.put o.dst (.slice (some ⟨g', 0, none⟩) (n + s.size) cap')) w') :
  wpList Tryz.prog ops Q (o :: rest) a w := by
 obtain ⟨i0, hi, hz0, hz1, hz2⟩ := info_parts info5
 refine Lib.wpList_append_own_string w hgd sl x 40 9 ho base 5 i0 Tryz.underlying40 Tryz.underlying9 hi hz0 hz1 hz2 _ n xs hs hown s hx (by unfold maxLen; omega) hbytes hbase ?_
 intro v' w' hown' hgrow _
 obtain ⟨g', cap', hv, hb⟩ := own_form hown' (by omega)
 rw [nums_cells] at hown'
 rw [hv] at hown' ⊢
 exact h g' cap' w' hb hown' hgrow
theorem putText_any (ao : Option Addr) (len cap : Nat) (s : ByteArray) (zs : List Int) (w : World) (hr : Row8 w ao len cap zs) (hm : len + 10 + s.size ≤ 140737488355328) :
  Calls Tryz.prog 124 #[.slice ao len cap, .string s] w fun e w' => ∃ g c : Nat, w.heap.size ≤ g ∧ e = .returned (.slice (some ⟨g, 0, none⟩) (len + (encF 9 s.size).length + s.size) c) ∧
   w'.ownsRow w.heap.size 5 1 (.slice (some ⟨g, 0, none⟩) (len + (encF 9 s.size).length + s.size) c) (len + (encF 9 s.size).length + s.size) ((zs ++ encF 9 s.size ++ nums s).map (Value.int .u8)) ∧ Below w.heap.size w w' := by
 have hL := encF_len 9 (s.size : Int)
 go_enter Tryz.func124, Tryz.ntmps124
 go_wp2_with fail
 refine (withRoom_int ao len cap (10 + s.size) _ (by omega) zs w hr (by omega)).mono ?_
 rintro e w1 ⟨rfl, hown, hb1⟩
 have hs1 := hb1.size
 go_wp2_with fail
 refine (layUint_any w.heap.size len (len + (10 + s.size)) (s.size : Int) (zs.map (Value.int .u8)) w1 w.heap.size (by omega) (by omega) hs1 (Nat.le_refl _) hown (by omega)).mono ?_
 rintro e w2 ⟨rfl, hown2, hb2⟩
 rw [← List.map_append] at hown2
 have hb12 := hb1.trans hb2
 have hs2 := hb12.size
 clear hown hb1 hb2 hr
 go_wp2_with (first | (at_builtin; refine app_string rfl (.tmp 13) (.tmp 14) rfl w.heap.size w.heap.size (len + (encF 9 (s.size : Int)).length) (len + (10 + s.size)) _ rfl hown2 (by omega) s rfl (by omega) hs2 ?_; intro g' c' w3 hg3 hown3 hgrow3))
 rw [← List.map_append] at hown3
 go_ret
 exact ⟨g', c', hg3, rfl, hown3, hb12.grown hgrow3 hs2 (by simp)⟩
def tx (s : ByteArray) : List Int := encF 9 (s.size : Int) ++ nums s
def keyAt : List ByteArray → Nat → ByteArray
 | [], _ => ⟨#[]⟩
 | t :: _, 0 => t
 | _ :: r, i + 1 => keyAt r i
theorem keyAt_of : ∀ (ks : List ByteArray) (i : Nat) (t : ByteArray), ks[i]? = some t → keyAt ks i = t
 | [], i, t, h => by simp at h
 | _ :: _, 0, t, h => by simpa [keyAt] using h
 | _ :: r, i + 1, t, h => keyAt_of r i t (by simpa using h)
theorem keyAt_tail (ks : List ByteArray) (i : Nat) : keyAt ks.tail i = keyAt ks (i + 1) := by cases ks <;> rfl
def encN (k n : Int) (s : ByteArray) (len : Nat) (body : List Int) : List Int :=
 if k = 0 then [0] else if k = 1 then [1 + n] else if k = 2 then 3 :: encF 9 (foldI n) else if k = 3 then 4 :: tx s
 else if k = 4 then 5 :: (encF 9 (len : Int) ++ body) else if k = 5 then 6 :: (encF 9 (len : Int) ++ body) else []
def wencL : Bool → List Vl → List ByteArray → List Int
 | _, [], _ => []
 | r, .mk k n s l q :: xs, ks => (if r = true then tx (keyAt ks 0) else []) ++ encN k n s l.length (wencL (decide (k = 5)) l q) ++ wencL r xs ks.tail
def wenc : Vl → List Int
 | .mk k n s l ks => encN k n s l.length (wencL (decide (k = 5)) l ks)
theorem wencL_nil (r : Bool) (ks : List ByteArray) : wencL r [] ks = [] := by simp only [wencL]
theorem wencL_cons (r : Bool) (x : Vl) (xs : List Vl) (ks : List ByteArray) : wencL r (x :: xs) ks = (if r = true then tx (keyAt ks 0) else []) ++ wenc x ++ wencL r xs ks.tail := by
 cases x
 simp only [wencL, wenc]
theorem wencL_next (r : Bool) : ∀ (l : List Vl) (ks : List ByteArray) (i : Nat) (x : Vl), l[i]? = some x →
  wencL r (l.take (i + 1)) ks = wencL r (l.take i) ks ++ (if r = true then tx (keyAt ks i) else []) ++ wenc x
 | [], _, i, x, h => by simp at h
 | y :: l, ks, 0, x, h => by
  simp at h
  subst h
  simp [wencL_cons, wencL_nil]
 | y :: l, ks, i + 1, x, h => by
  have ih := wencL_next r l ks.tail i x (by simpa using h)
  rw [List.take_succ_cons, List.take_succ_cons, wencL_cons, wencL_cons, ih]
  rw [keyAt_tail]
  simp only [List.append_assoc]
theorem tx_len (s : ByteArray) : (tx s).length ≤ 10 + s.size := by
 unfold tx
 have := encF_len 9 (s.size : Int)
 have := nums_len s
 rw [List.length_append]
 omega
theorem tx_pos (s : ByteArray) : 1 ≤ (tx s).length := by
 unfold tx
 have := encF_len 9 (s.size : Int)
 rw [List.length_append]
 omega
theorem size_head (ks : List ByteArray) : (keyAt ks 0).size + keysW ks.tail ≤ keysW ks := by
 cases ks with
 | nil => exact Nat.le_refl 0
 | cons t r => simp [keysW, keyAt]
theorem encN_len (k n : Int) (s : ByteArray) (len : Nat) (body : List Int) : (encN k n s len body).length + 10 ≤ 21 + 21 * s.size + body.length := by
 have h1 := encF_len 9 (foldI n)
 have h2 := encF_len 9 (len : Int)
 have h3 := tx_len s
 unfold encN
 repeat' split
 all_goals (simp only [List.length_cons, List.length_append, List.length_nil]; omega)
theorem wencL_len : ∀ (r : Bool) (l : List Vl) (ks : List ByteArray), (wencL r l ks).length ≤ 21 * wtL l + keysW ks
 | _, [], _ => by simp [wencL_nil]
 | r, .mk k n s l q :: xs, ks => by
  have h0 := wencL_len (decide (k = 5)) l q
  have h1 := encN_len k n s l.length (wencL (decide (k = 5)) l q)
  have h2 := wencL_len r xs ks.tail
  have h3 := size_head ks
  have h4 := tx_len (keyAt ks 0)
  rw [wencL_cons, wtL_cons]
  simp only [wenc, wt]
  cases r <;> simp <;> omega
theorem wenc_len (v : Vl) : (wenc v).length + 10 ≤ 21 * wt v := by
 cases v with
 | mk k n s l ks =>
  have h0 := wencL_len (decide (k = 5)) l ks
  have h1 := encN_len k n s l.length (wencL (decide (k = 5)) l ks)
  simp only [wenc, wt]
  omega
theorem empty_of {s : ByteArray} (h : s.toList = []) : s = ⟨#[]⟩ := by
 apply Go.WideShapes.bytes_inj
 rw [← ByteArray.toList_eq, h]
theorem form_zero {k n : Int} {s : ByteArray} {ll : Nat} {ks : List ByteArray} (h : formB k n s ll ks = true) :
  (k = 0 ∧ n = 0 ∧ s = ⟨#[]⟩ ∧ ll = 0 ∧ ks = []) ∨ (k = 1 ∧ (n = 0 ∨ n = 1) ∧ s = ⟨#[]⟩ ∧ ll = 0 ∧ ks = []) ∨ (k = 2 ∧ s = ⟨#[]⟩ ∧ ll = 0 ∧ ks = []) ∨ (k = 3 ∧ n = 0 ∧ ll = 0 ∧ ks = []) ∨
   (k = 4 ∧ n = 0 ∧ s = ⟨#[]⟩ ∧ ks = []) ∨ (k = 5 ∧ n = 0 ∧ s = ⟨#[]⟩ ∧ ks.length = ll ∧ risingFrom none ks = true) := by
 unfold formB formM at h
 split at h
 ·rename_i e
  simp at h
  exact Or.inl ⟨e, h.1.1.1, empty_of h.1.1.2, h.1.2, h.2⟩
 split at h
 ·rename_i _ e
  simp at h
  exact Or.inr (Or.inl ⟨e, h.1.1.1, empty_of h.1.1.2, h.1.2, h.2⟩)
 split at h
 ·rename_i _ _ e
  simp at h
  exact Or.inr (Or.inr (Or.inl ⟨e, empty_of h.1.1, h.1.2, h.2⟩))
 split at h
 ·rename_i _ _ _ e
  simp at h
  exact Or.inr (Or.inr (Or.inr (Or.inl ⟨e, h.1.1, h.1.2, h.2⟩)))
 split at h
 ·rename_i _ _ _ _ e
  simp at h
  exact Or.inr (Or.inr (Or.inr (Or.inr (Or.inl ⟨e, h.1.1, empty_of h.1.2, h.2⟩))))
 split at h
 ·rename_i _ _ _ _ _ e
  simp at h
  exact Or.inr (Or.inr (Or.inr (Or.inr (Or.inr ⟨e, h.1.1.1, empty_of h.1.1.2, h.1.2, h.2⟩))))
 ·cases h
theorem wenc0 (n : Int) (s : ByteArray) (l : List Vl) (ks : List ByteArray) : wenc (.mk 0 n s l ks) = [0] := by simp [wenc, encN]
theorem wenc1 (n : Int) (s : ByteArray) (l : List Vl) (ks : List ByteArray) : wenc (.mk 1 n s l ks) = [1 + n] := by simp [wenc, encN]
theorem wenc2 (n : Int) (s : ByteArray) (l : List Vl) (ks : List ByteArray) : wenc (.mk 2 n s l ks) = 3 :: encF 9 (foldI n) := by simp [wenc, encN]
theorem wenc3 (n : Int) (s : ByteArray) (l : List Vl) (ks : List ByteArray) : wenc (.mk 3 n s l ks) = 4 :: tx s := by simp [wenc, encN]
theorem wenc4 (n : Int) (s : ByteArray) (l : List Vl) (ks : List ByteArray) : wenc (.mk 4 n s l ks) = 5 :: (encF 9 (l.length : Int) ++ wencL false l ks) := by simp [wenc, encN]
theorem wenc5 (n : Int) (s : ByteArray) (l : List Vl) (ks : List ByteArray) : wenc (.mk 5 n s l ks) = 6 :: (encF 9 (l.length : Int) ++ wencL true l ks) := by simp [wenc, encN]
/-! ### Are two values the same? -/
def sameL : List Vl → List Vl → Bool
 | [], _ => true
 | _ :: _, [] => true
 | .mk k n s l q :: xs, .mk k' n' s' l' q' :: ys => (decide (k = k') && decide (n = n') && (s.toList == s'.toList) && decide (l.length = l'.length) && decide (q = q') && sameL l l') && sameL xs ys
def sameB : Vl → Vl → Bool
 | .mk k n s l ks, .mk k' n' s' l' ks' => decide (k = k') && decide (n = n') && (s.toList == s'.toList) && decide (l.length = l'.length) && decide (ks = ks') && sameL l l'
theorem sameL_nil (l : List Vl) : sameL [] l = true := by simp only [sameL]
theorem sameL_cons (x : Vl) (xs : List Vl) (y : Vl) (ys : List Vl) : sameL (x :: xs) (y :: ys) = (sameB x y && sameL xs ys) := by
 cases x
 cases y
 simp only [sameL, sameB]
theorem bytes_beq (a b : ByteArray) : (a.toList == b.toList) = true ↔ a = b := by
 rw [beq_iff_eq, ByteArray.toList_eq, ByteArray.toList_eq]
 exact ⟨Go.WideShapes.bytes_inj, fun h => by rw [h]⟩
theorem sameB_iff_of {k n : Int} {s : ByteArray} {l : List Vl} {ks : List ByteArray} {k' n' : Int} {s' : ByteArray} {l' : List Vl} {ks' : List ByteArray} (h : l.length = l'.length → (sameL l l' = true ↔ l = l')) : sameB (.mk k n s l ks) (.mk k' n' s' l' ks') = true ↔ Vl.mk k n s l ks = .mk k' n' s' l' ks' := by
 simp only [sameB, Bool.and_eq_true, decide_eq_true_eq, bytes_beq, Vl.mk.injEq]
 constructor
 ·rintro ⟨⟨⟨⟨⟨h1, h2⟩, h3⟩, h4⟩, h5⟩, h6⟩
  exact ⟨h1, h2, h3, (h h4).1 h6, h5⟩
 ·rintro ⟨h1, h2, h3, h4, h5⟩
  exact ⟨⟨⟨⟨⟨h1, h2⟩, h3⟩, by rw [h4]⟩, h5⟩, (h (by rw [h4])).2 h4⟩
theorem sameL_iff : ∀ (l l' : List Vl), l.length = l'.length → (sameL l l' = true ↔ l = l')
 | [], [], _ => by simp [sameL_nil]
 | [], _ :: _, h => by simp at h
 | _ :: _, [], h => by simp at h
 | .mk k n s l q :: xs, .mk k' n' s' l' q' :: ys, h => by
  have h1 := sameB_iff_of (k := k) (n := n) (s := s) (ks := q) (k' := k') (n' := n') (s' := s') (ks' := q') (sameL_iff l l')
  have h2 := sameL_iff xs ys (by simpa using h)
  rw [sameL_cons, Bool.and_eq_true, h1, h2, List.cons.injEq]
theorem sameB_iff (a b : Vl) : sameB a b = true ↔ a = b := by
 cases a
 cases b
 exact sameB_iff_of (sameL_iff _ _)
def cntL : List Vl → Nat
 | [] => 0
 | .mk _ _ _ l _ :: r => (1 + cntL l) + cntL r
def cnt : Vl → Nat
 | .mk _ _ _ l _ => 1 + cntL l
theorem cntL_nil : cntL [] = 0 := by simp only [cntL]
theorem cntL_cons (x : Vl) (r : List Vl) : cntL (x :: r) = cnt x + cntL r := by cases x; simp only [cntL, cnt]
theorem cntL_app (a b : List Vl) : cntL (a ++ b) = cntL a + cntL b := by
 induction a with
 | nil => simp [cntL_nil]
 | cons x r ih => simp [cntL_cons, ih]; omega
theorem cntL_next (l : List Vl) (i : Nat) (x : Vl) (h : l[i]? = some x) : cntL (l.take (i + 1)) = cntL (l.take i) + cnt x := by
 obtain ⟨hi, rfl⟩ := List.getElem?_eq_some_iff.1 h
 rw [List.take_succ_eq_append_getElem hi, cntL_app, cntL_cons, cntL_nil, Nat.add_zero]
theorem cntL_take_le (l : List Vl) (i : Nat) : cntL (l.take i) ≤ cntL l := by
 have h := cntL_app (l.take i) (l.drop i)
 rw [List.take_append_drop] at h
 omega
theorem cnt_pos (v : Vl) : 1 ≤ cnt v := by cases v; simp only [cnt]; omega
theorem len_cntL (l : List Vl) : l.length ≤ cntL l := by
 induction l with
 | nil => simp [cntL_nil]
 | cons x r ih => have := cnt_pos x; simp [cntL_cons]; omega
theorem cntL_wt : ∀ (l : List Vl), cntL l ≤ wtL l
 | [] => by simp [cntL_nil]
 | .mk _ _ s l ks :: r => by have := cntL_wt l; have := cntL_wt r; simp only [cntL, wtL]; omega
theorem cnt_wt (v : Vl) : cnt v ≤ wt v := by
 cases v with
 | mk k n s l ks => have := cntL_wt l; simp only [cnt, wt]; omega
theorem dep_elem (l : List Vl) (i : Nat) (x : Vl) (h : l[i]? = some x) : dep x ≤ depL l := by
 have h1 := depL_next l i x h
 have h2 := depL_app (l.take (i + 1)) (l.drop (i + 1))
 rw [List.take_append_drop] at h2
 omega
def Leaf (x : Value) : Prop := ∃ k n s, x = .agg #[.int .i64 k, .int .i64 n, .string s, .slice none 0 0, .slice none 0 0]
def Grp (cs : Array Value) (i : Nat) (y0 y1 y2 y3 y4 : Value) : Prop := cs[i * 5]? = some y0 ∧ cs[i * 5 + 1]? = some y1 ∧ cs[i * 5 + 2]? = some y2 ∧ cs[i * 5 + 3]? = some y3 ∧ cs[i * 5 + 4]? = some y4
def TyK (w : World) (P : Nat → Prop) (ak : Option Addr) (m ck : Nat) : Prop :=
 (ak = none ∧ m = 0 ∧ ck = 0) ∨ ∃ b cs, ak = some ⟨b, 0, none⟩ ∧ P b ∧ w.heap[b]? = some (.cells cs 9 (0, 0)) ∧ cs.size = ck ∧ m ≤ ck ∧ ck ≤ maxLen ∧ 16 * m ≤ 140737488351232
def TyL (w : World) (P : Nat → Prop) (R : Value → Prop) (al : Option Addr) (ll cl : Nat) : Prop :=
 (al = none ∧ ll = 0 ∧ cl = 0) ∨ ∃ b cs, al = some ⟨b, 0, none⟩ ∧ P b ∧ w.heap[b]? = some (.cells cs 25 (0, 0)) ∧ cs.size = cl * 5 ∧ ll ≤ cl ∧ cl ≤ maxLen ∧ ll ≤ 1000000 ∧ ∀ i, i < ll → ∃ y0 y1 y2 y3 y4, Grp cs i y0 y1 y2 y3 y4 ∧ R (.agg #[y0, y1, y2, y3, y4])
def Ty (w : World) (P : Nat → Prop) : Nat → Value → Prop
 | 0, x => Leaf x
 | r + 1, x => ∃ k n s al ll cl ak m ck, x = .agg #[.int .i64 k, .int .i64 n, .string s, .slice al ll cl, .slice ak m ck] ∧ TyL w P (Ty w P r) al ll cl ∧ TyK w P ak m ck
theorem Ty.leaf {w : World} {P : Nat → Prop} {x : Value} (h : Leaf x) : ∀ r, Ty w P r x
 | 0 => h
 | r + 1 => by
  obtain ⟨k, n, s, rfl⟩ := h
  exact ⟨k, n, s, none, 0, 0, none, 0, 0, rfl, Or.inl ⟨rfl, rfl, rfl⟩, Or.inl ⟨rfl, rfl, rfl⟩⟩
theorem TyL.map {w : World} {P : Nat → Prop} {R R' : Value → Prop} {al : Option Addr} {ll cl : Nat} (h : TyL w P R al ll cl) (hR : ∀ x, R x → R' x) : TyL w P R' al ll cl := by
 rcases h with h | ⟨b, cs, h1, h2, h3, h4, h5, h6, h7, h8⟩
 ·exact Or.inl h
 ·refine Or.inr ⟨b, cs, h1, h2, h3, h4, h5, h6, h7, fun i hi => ?_⟩
  obtain ⟨y0, y1, y2, y3, y4, g, hr⟩ := h8 i hi
  exact ⟨y0, y1, y2, y3, y4, g, hR _ hr⟩
theorem Ty.mono {w : World} {P : Nat → Prop} : ∀ (r : Nat) (x : Value), Ty w P r x → Ty w P (r + 1) x
 | 0, x, h => Ty.leaf h 1
 | r + 1, x, h => by
  obtain ⟨k, n, s, al, ll, cl, ak, m, ck, e, hl, hk⟩ := h
  exact ⟨k, n, s, al, ll, cl, ak, m, ck, e, hl.map (fun x hx => Ty.mono r x hx), hk⟩
theorem Ty.le {w : World} {P : Nat → Prop} {r q : Nat} {x : Value} (h : Ty w P r x) (hq : r ≤ q) : Ty w P q x := by
 obtain ⟨d, rfl⟩ := Nat.exists_eq_add_of_le hq
 induction d with
 | zero => exact h
 | succ d ih => exact Ty.mono _ _ (ih (by omega))
theorem TyK.to {w w' : World} {P Q : Nat → Prop} (hw : ∀ b, P b → w'.heap[b]? = w.heap[b]?) (hP : ∀ b, P b → Q b) {ak : Option Addr} {m ck : Nat} (h : TyK w P ak m ck) : TyK w' Q ak m ck := by
 rcases h with h | ⟨b, cs, h1, h2, h3, h4⟩
 ·exact Or.inl h
 ·exact Or.inr ⟨b, cs, h1, hP b h2, (hw b h2).trans h3, h4⟩
theorem Ty.to {w w' : World} {P Q : Nat → Prop} (hw : ∀ b, P b → w'.heap[b]? = w.heap[b]?) (hP : ∀ b, P b → Q b) : ∀ (r : Nat) (x : Value), Ty w P r x → Ty w' Q r x
 | 0, x, h => h
 | r + 1, x, h => by
  obtain ⟨k, n, s, al, ll, cl, ak, m, ck, e, hl, hk⟩ := h
  refine ⟨k, n, s, al, ll, cl, ak, m, ck, e, ?_, hk.to hw hP⟩
  rcases hl with h | ⟨b, cs, h1, h2, h3, h4, h5, h6, h7, h8⟩
  ·exact Or.inl h
  ·refine Or.inr ⟨b, cs, h1, hP b h2, (hw b h2).trans h3, h4, h5, h6, h7, fun i hi => ?_⟩
   obtain ⟨y0, y1, y2, y3, y4, g, hr⟩ := h8 i hi
   exact ⟨y0, y1, y2, y3, y4, g, Ty.to hw hP r _ hr⟩
def IsQ (w : World) (P : Nat → Prop) (v : Vl) (x : Value) : Prop := IsP w P v x ∧ Ty w P (dep v) x
theorem IsQ.to {w w' : World} {P Q : Nat → Prop} (hw : ∀ b, P b → w'.heap[b]? = w.heap[b]?) (hP : ∀ b, P b → Q b) {v : Vl} {x : Value} (h : IsQ w P v x) : IsQ w' Q v x := ⟨h.1.to hw hP, Ty.to hw hP _ _ h.2⟩
theorem IsQ.weak {w : World} {P Q : Nat → Prop} (hP : ∀ b, P b → Q b) {v : Vl} {x : Value} (h : IsQ w P v x) : IsQ w Q v x := h.to (fun _ _ => rfl) hP
theorem IsQ.move {w w' : World} {P : Nat → Prop} (hw : ∀ b, P b → w'.heap[b]? = w.heap[b]?) {v : Vl} {x : Value} (h : IsQ w P v x) : IsQ w' P v x := h.to hw (fun _ h => h)
theorem IsQ.isV {w : World} {P : Nat → Prop} {B : Nat} (hP : ∀ b, P b → b < B) {v : Vl} {x : Value} (h : IsQ w P v x) : IsV w B v x := h.1.isV hP
theorem IsQ.shape {w : World} {P : Nat → Prop} {y : Vl} {x : Value} (h : IsQ w P y x) : ∃ kind n s l ks al ak cl ck, y = .mk kind n s l ks ∧ x = .agg #[.int .i64 kind, .int .i64 n, .string s, .slice al l.length cl, .slice ak ks.length ck] := h.1.shape
theorem dep_le {l : List Vl} {i : Nat} {y : Vl} (h : l[i]? = some y) : dep y ≤ depL l := by
 have h1 := depL_next l i y h
 have h2 := depL_app (l.take (i + 1)) (l.drop (i + 1))
 rw [List.take_append_drop] at h2
 omega
end Go.Proofs.YtgkmdjmigehmeaaGreatDoor
