/-
  The walks of the statements' lent and still (layer 2): a text as bytes with spare room behind them and marks in it; do they read as they did? conditions: the text and its room fit.
-/
import Derived.Test.YtfmbaidpeliakaaDoorApp2
import Derived.Lib.BufferWrite
import Derived.Laws.BytesArg
import Derived.OwnWalk
namespace Go.Proofs.YtfmbaidpeliakaaDoor
open Go.RowKit

/-- the marks behind a text of n bytes -/
def lentL (n : Nat) : List Int := (List.range 70).map fun i => (((200 + (n + i) % 40 : Nat)) : Int)

theorem lentL_len (n : Nat) : (lentL n).length = 70 := by simp [lentL]

theorem lent_at (s : ByteArray) (k : Nat) (h1 : s.size ≤ k) (h2 : k < s.size + 70) : (txt s ++ lentL s.size)[k]? = some ((200 + k % 40 : Nat) : Int) := by
  rw [List.getElem?_append_right (by rw [txt_len]; exact h1), txt_len]
  simp only [lentL, List.getElem?_map, List.getElem?_range (show k - s.size < 70 by omega), Option.map_some]
  rw [show s.size + (k - s.size) = k by omega]

theorem byteCells_txt (s : ByteArray) : Lib.byteCells s.data.toList = (txt s).map (Value.int .u8) := by
  unfold Lib.byteCells txt
  rw [List.map_map]
  rfl

theorem made_zero (n : Nat) : (madeCells (Value.int IntKind.u8 0).cells (n * 1)).toList = (List.replicate n (0 : Int)).map (Value.int .u8) := by
  apply List.ext_getElem
  · rw [Array.length_toList, size_madeCells, List.length_map, List.length_replicate, Nat.mul_one]
  · intro i h1 h2
    simp [madeCells, Value.cells, Nat.mod_one]

theorem own_block8 {w : World} {base g n : Nat} {xs : List Int} (h : w.ownsRow base 5 1 (.slice (some ⟨g, 0, none⟩) n n) n (xs.map (Value.int .u8))) : Arr8 w g 5 xs := by
  rcases h.2 with ⟨e, _⟩ | ⟨g', cap', cur, e, _, hg, _, _, hs, ht⟩
  · cases e
  · cases e
    have hc : cur.toList = xs.map (Value.int .u8) := by rw [← ht, List.take_of_length_le (by simp; omega)]
    unfold Arr8
    rw [hg, ← hc]

/-- copy(all, s) -/
theorem wpList_copy_str {w : World} {ops : Array Oper} {rest : List Oper} {o : Oper} {a : Act} {Q : Exit → Act → World → Prop} (hgd : o.guard = none) (d x : Operand)
    (ho : o.op = .call { callee := .builtin .copy, args := #[d, x], argTypes := #[36, 9] }) (g dLen dCap : Nat) (s : ByteArray) (cur : List Int)
    (hd : a.eval d = .slice (some ⟨g, 0, none⟩) dLen dCap) (hx : a.eval x = .string s) (hg : Arr8 w g 5 cur) (hle : s.size ≤ dLen) (hfit : s.size ≤ cur.length)
    (h : ∀ w', Hid (Put w w' g ((txt s ++ cur.drop s.size).map (Value.int .u8)).toArray 5) → wpList Tryd.prog ops Q rest (a.put o.dst (goInt s.size)) w') : wpList Tryd.prog ops Q (o :: rest) a w := by
  refine wpList_plain hgd fun K hK => ?_
  have hrun := Lib.run_copy_row_string (P := Tryd.prog) w 36 9 o.type 5 g 0 dLen dCap s _ 5 Tryd.underlying36 s1b hg hle (by simpa using hfit)
  have hcs : ((cur.map (Value.int .u8)).toArray.toList.take 0 ++ Lib.byteCells s.data.toList ++ (cur.map (Value.int .u8)).toArray.toList.drop (0 + s.size)).toArray = ((txt s ++ cur.drop s.size).map (Value.int .u8)).toArray := by
    rw [byteCells_txt]
    simp
  rw [hcs] at hrun
  unfold Oper.wp
  simp [execOp, ho, resolve, invoke, builtin, hd, hx, hrun, Result.andThen]
  exact hK _ _ (by
    have h' := h _ (hide (Put.mk' (c' := ((txt s ++ cur.drop s.size).map (Value.int .u8)).toArray) hg))
    simpa using h')

set_option maxRecDepth 100000 in
set_option maxHeartbeats 400000 in
theorem lent_any (s : ByteArray) (w : World) (hm : s.size ≤ 140737488351232) :
    Calls Tryd.prog 16 #[.string s] w fun e w' => e = .returned (.tuple #[.slice (some ⟨w.heap.size, 0, none⟩) s.size (s.size + 70), .slice (some ⟨w.heap.size, 0, none⟩) (s.size + 70) (s.size + 70)]) ∧
      Arr8 w' w.heap.size 5 (txt s ++ lentL s.size) ∧ Below w.heap.size w w' := by
  obtain ⟨i0, hi, hz0, hz1, hz2⟩ := info_parts infoU8'
  obtain ⟨n, hn⟩ : ∃ n, s.size = n := ⟨_, rfl⟩
  obtain ⟨G, hG⟩ : ∃ G, w.heap.size = G := ⟨_, rfl⟩
  have HA := hide (lent_at s)
  have HLT := hide (txt_len s)
  rw [hn] at hm HA HLT ⊢
  rw [hG]
  have HN := hide hn
  have n1 : IntKind.i64.wrap ((n : Int) + 70) = (n : Int) + 70 := by rw [IntKind.wrap_i64]; omega
  have tokA : True := trivial
  go_enter Tryd.func16, Tryd.ntmps16
  go_wp2_with (first
    | (at_make; refine wpList_make_full _ rfl _ _ 36 rfl G 5 i0 (.int .u8 0) 1 Tryd.underlying36 hi hz0 hz1 _ _ _ _ (n + 70) rfl rfl (by omega) (by omega) (by rw [hz2]; omega) (by unfold maxLen; omega) (by omega) ?_; intro w1 hown1 hgrow1; rw [hG] at hown1 ⊢; rw [made_zero] at hown1; have A1 := hide (own_block8 hown1); have G1 := hide hgrow1; clear hown1 hgrow1)
    | (have _t := tokA; refine wpList_copy_str rfl (.tmp 10) (.tmp 11) rfl G (n + 70) (n + 70) s (List.replicate (n + 70) 0) rfl rfl (unhide A1) (by omega) (by simp; omega) ?_; intro w2 P2; clear tokA))
  have hd : Hid ((txt s ++ (List.replicate (n + 70) (0 : Int)).drop s.size).length = n + 70) := hide (by rw [List.length_append, unhide HLT]; simp; omega)
  have A2 : Hid (Arr8 w2 G 5 (txt s ++ (List.replicate (n + 70) (0 : Int)).drop s.size)) := hide (unhide P2).at'
  have T2 : Hid ((txt s ++ (List.replicate (n + 70) (0 : Int)).drop s.size).take n = (txt s ++ lentL n).take n) := hide (by
    rw [List.take_append_of_le_length (by have := unhide HLT; omega), List.take_append_of_le_length (by have := unhide HLT; omega)])
  have B2 : Hid (Below G w w2) := hide ((unhide P2).below G w ((Below.refl _ _).grown (unhide G1) (by omega) (by simp)) (Nat.le_refl _))
  generalize txt s ++ (List.replicate (n + 70) (0 : Int)).drop s.size = L0 at *
  clear P2 A1 G1
  go_loopw [5] (fun x wr => ∃ (k : Nat) (xs : List Int), n ≤ k ∧ k ≤ n + 70 ∧ x = .int .i64 k ∧ Hid (Arr8 wr G 5 xs) ∧ Hid (xs.length = n + 70) ∧ Hid (xs.take k = (txt s ++ lentL n).take k) ∧ Hid (Below G w wr)) (fun x _ => n + 70 - (intOf x).toNat)
  case atStart => exact ⟨n, L0, by omega, by omega, rfl, A2, hd, T2, B2⟩
  case round =>
    clear A2 hd T2 B2
    obtain ⟨k, xs, hk1, hk2, rfl, HX, HL, HT, HB⟩ := hrel
    by_cases hlt : k < n + 70
    · have c1 := (unhide HX).cell k (by have := unhide HL; omega)
      have cf := (unhide HX).free k
      have hat := unhide HA k hk1 hlt
      obtain ⟨r, hr⟩ : ∃ r, k % 40 = r := ⟨_, rfl⟩
      rw [hr] at hat
      have r0 : r < 40 := by omega
      have r1 : (k : Int).tmod 40 = (r : Int) := by rw [Int.tmod_eq_emod_of_nonneg (by omega)]; omega
      have r2 : (k : Int) % 40 = (r : Int) := by omega
      have r3 : IntKind.i64.wrap (200 + (r : Int)) = 200 + (r : Int) := by rw [IntKind.wrap_i64]; omega
      have r4 : IntKind.u8.wrap (200 + (r : Int)) = 200 + (r : Int) := by rw [IntKind.wrap_u8]; omega
      have r5 : (200 + (r : Int)) % 256 = 200 + (r : Int) := by omega
      have k1 : (k : Int) < (n : Int) + 70 := by omega
      have HX' := hide ((unhide HX).set k (200 + (r : Int)))
      have HL' : Hid ((xs.set k (200 + (r : Int))).length = n + 70) := hide (by simpa using unhide HL)
      have HT' : Hid ((xs.set k (200 + (r : Int))).take (k + 1) = (txt s ++ lentL n).take (k + 1)) := hide (by
        rw [take_set_next _ _ _ (by have := unhide HL; omega), unhide HT, List.take_add_one, hat]
        simp)
      have HB' := hide ((unhide HB).setCell (p := ⟨G, k, none⟩) (Nat.le_refl _) (.int .u8 (200 + (r : Int))))
      generalize xs.getD k 0 = y0 at *
      clear hat hr
      go_wp2_with fail
      go_roundw
      case rel => exact ⟨k + 1, _, by omega, by omega, by go_num, HX', HL', HT', HB'⟩
      case measure => simp [intOf]; omega
    · have hk : k = n + 70 := by omega
      subst hk
      have hxs : xs = txt s ++ lentL n := by
        have h := unhide HT
        rw [List.take_of_length_le (by have := unhide HL; omega), List.take_of_length_le (by rw [List.length_append, unhide HLT, lentL_len]; exact Nat.le_refl _)] at h
        exact h
      subst hxs
      go_wp2_with fail
      go_ret2
      exact ⟨rfl, unhide HX, unhide HB⟩

theorem str_txt (s : ByteArray) : strOfNums (txt s) = s := by
  have h : (s.data.toList.map (fun b : UInt8 => (b.toNat : Int))).map (fun n : Int => UInt8.ofNat n.toNat) = s.data.toList := by
    rw [List.map_map]
    exact (List.map_congr_left (g := id) (fun b _ => by simp)).trans (List.map_id _)
  unfold strOfNums txt
  rw [h]

set_option maxRecDepth 100000 in
set_option maxHeartbeats 400000 in
theorem still_any (G : Nat) (s : ByteArray) (w : World) (hm : s.size ≤ 140737488351232) (hA : Arr8 w G 5 (txt s ++ lentL s.size)) :
    Calls Tryd.prog 17 #[.slice (some ⟨G, 0, none⟩) (s.size + 70) (s.size + 70), .string s] w fun e w' => e = .returned (.bool true) ∧ w' = w := by
  obtain ⟨n, hn⟩ : ∃ n, s.size = n := ⟨_, rfl⟩
  have HA := hide (lent_at s)
  have HLT := hide (txt_len s)
  rw [hn] at hm hA HA HLT ⊢
  have HL : Hid ((txt s ++ lentL n).length = n + 70) := hide (by rw [List.length_append, unhide HLT, lentL_len])
  have hcv : ∀ cap, Sem.run Tryd.prog (convert 36 9 (.slice (some ⟨G, 0, none⟩) n cap)) w = .ok (.string s) w := fun cap => by
    have h := run_convert_bytes_arg (P := Tryd.prog) w 36 5 Tryd.underlying36 Tryd.underlying5 G 0 n cap (txt s) (unhide HLT) (fun j hj => by
      have h1 := hA.cell j (by have := unhide HL; omega)
      rw [List.getD_eq_getElem?_getD, List.getElem?_append_left (by have := unhide HLT; omega), ← List.getD_eq_getElem?_getD] at h1
      simpa using h1) 9 Tryd.underlying9
    rw [str_txt] at h
    exact h
  have HARR := hide hA
  have HN := hide hn
  clear hA
  go_enter Tryd.func17, Tryd.ntmps17
  go_wp2_with fail
  go_loopw [5] (fun x wr => ∃ k : Nat, n ≤ k ∧ k ≤ n + 70 ∧ x = .int .i64 k ∧ wr = w) (fun x _ => n + 70 - (intOf x).toNat)
  case atStart => exact ⟨n, by omega, by omega, rfl, rfl⟩
  case round =>
    obtain ⟨k, hk1, hk2, rfl, rfl⟩ := hrel
    by_cases hlt : k < n + 70
    · have c1 := (unhide HARR).cell k (by have := unhide HL; omega)
      have hat := unhide HA k hk1 hlt
      rw [List.getD_eq_getElem?_getD, hat] at c1
      obtain ⟨r, hr⟩ : ∃ r, k % 40 = r := ⟨_, rfl⟩
      rw [hr] at c1
      have c2 : wr.cell? ⟨G, k, none⟩ = some (.int .u8 (200 + (r : Int))) := by simpa using c1
      have r0 : r < 40 := by omega
      have r1 : (k : Int).tmod 40 = (r : Int) := by rw [Int.tmod_eq_emod_of_nonneg (by omega)]; omega
      have r2 : (k : Int) % 40 = (r : Int) := by omega
      have r3 : IntKind.i64.wrap (200 + (r : Int)) = 200 + (r : Int) := by rw [IntKind.wrap_i64]; omega
      have r4 : IntKind.u8.wrap (200 + (r : Int)) = 200 + (r : Int) := by rw [IntKind.wrap_u8]; omega
      have r5 : (200 + (r : Int)) % 256 = 200 + (r : Int) := by omega
      have k1 : (k : Int) < (n : Int) + 70 := by omega
      clear hat hr c1
      go_wp2_with fail
      go_roundw
      case rel => exact ⟨k + 1, by omega, by omega, by go_num, trivial⟩
      case measure => simp [intOf]; omega
    · go_wp2_with fail
      go_ret
      exact ⟨rfl, rfl⟩
end Go.Proofs.YtfmbaidpeliakaaDoor
