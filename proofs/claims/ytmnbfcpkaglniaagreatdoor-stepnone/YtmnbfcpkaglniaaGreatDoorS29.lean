/-
  The walk of formed (layer 9): is a module right in all but the length of its bytes? no conditions but the form's own reach.
-/
import Derived.Test.YtmnbfcpkaglniaaGreatDoorS18
set_option linter.unusedVariables false
set_option linter.unusedSimpArgs false
namespace Go.Proofs.YtmnbfcpkaglniaaGreatDoor
open Go.RowKit
/-- the module in its box, the table of sections -/
structure Sees (w : World) (B g gs : Nat) (m : Md) (s1 s2 s3 : Value) (a1 : Option Addr) (c1 : Nat) (a2 : Option Addr) (c2 : Nat) (a3 : Option Addr) (c3 : Nat) : Prop where
  box : w.heap[g]? = some (.cells #[s1, s2, s3] 47 (0, 0))
  sec : w.heap[gs]? = some (.cells secRow 195 (0, 0))
  mod : IsM w (fun b => b < B) m a1 c1 a2 c2 a3 c3
  low : B ≤ w.heap.size
theorem Sees.later {w w' : World} {B g gs : Nat} {m : Md} {s1 s2 s3 : Value} {a1 a2 a3 : Option Addr} {c1 c2 c3 : Nat} (h : Sees w B g gs m s1 s2 s3 a1 c1 a2 c2 a3 c3) (hb : Below w.heap.size w w') : Sees w' B g gs m s1 s2 s3 a1 c1 a2 c2 a3 c3 :=
  ⟨(hb.block g (lt_of_row h.box)).trans h.box, (hb.block gs (lt_of_row h.sec)).trans h.sec, h.mod.later (hb.mono h.low), Nat.le_trans h.low hb.size⟩
theorem sec_cells {w : World} {gs : Nat} (h : w.heap[gs]? = some (.cells secRow 195 (0, 0))) (j : Nat) (v : Value) (hv : secRow[j]? = some v) : w.cell? ⟨gs, j, none⟩ = some v := by
  rw [cell_of_row w gs j _ _ (0, 0) h]; exact hv
theorem all_take {α : Type} (f : α → Bool) (l : List α) (i : Nat) (x : α) (h : l[i]? = some x) (ha : (l.take i).all f = true) (hx : f x = true) : (l.take (i + 1)).all f = true := by
  obtain ⟨hi, rfl⟩ := List.getElem?_eq_some_iff.1 h
  rw [List.take_succ_eq_append_getElem hi, List.all_append, ha]
  simp [hx]
theorem all_bad {α : Type} (f : α → Bool) (l : List α) (i : Nat) (x : α) (h : l[i]? = some x) (hx : f x = false) : l.all f = false := by
  rw [Bool.eq_false_iff]
  intro e
  rw [List.all_eq_true] at e
  rw [e x (List.mem_of_getElem? h)] at hx
  cases hx
theorem form_n {m : Md} (h : ¬ (m.cs.length ≤ 100 ∧ m.fs.length ≤ 24 ∧ m.xs.length ≤ 24)) : formedB m = false := by
  unfold formedB
  rw [Bool.eq_false_iff]
  intro e
  simp only [Bool.and_eq_true, decide_eq_true_eq] at e
  exact h ⟨e.1.1.1.1.1, e.1.1.1.1.2, e.1.1.1.2⟩
theorem form_c {m : Md} (h : m.cs.all rightB = false) : formedB m = false := by unfold formedB; rw [h]; simp
theorem form_f {m : Md} (h : m.fs.all fnB = false) : formedB m = false := by unfold formedB; rw [h]; simp
theorem form_x {m : Md} (h : exsB m.fs.length ⟨#[]⟩ m.xs = false) : formedB m = false := by unfold formedB; rw [h]; simp
theorem form_all {m : Md} (h : m.cs.length ≤ 100 ∧ m.fs.length ≤ 24 ∧ m.xs.length ≤ 24) (hc : m.cs.all rightB = true) (hf : m.fs.all fnB = true) (hx : exsB m.fs.length ⟨#[]⟩ m.xs = true) : formedB m = true := by
  unfold formedB
  rw [hc, hf, hx, decide_eq_true h.1, decide_eq_true h.2.1, decide_eq_true h.2.2]
  rfl
theorem exs_at (nf : Nat) (l : List Ex) (i : Nat) (p : ByteArray) (x : Ex) (h : l[i]? = some x) : exsB nf p (l.drop i) = (exB nf p x && exsB nf x.1 (l.drop (i + 1))) := by
  obtain ⟨hi, rfl⟩ := List.getElem?_eq_some_iff.1 h
  rw [List.drop_eq_getElem_cons hi, exsB]
theorem below_box {w u u' : World} {c : Array Value} {T : TypeId} (hb : Below w.heap.size w u) (h : BoxN u u' c T) : Below w.heap.size w u' := hb.trans (h.below.mono hb.size)
set_option maxRecDepth 100000 in
set_option maxHeartbeats 4000000 in
theorem formedM_any (m : Md) (a1 a2 a3 : Option Addr) (n1 c1 n2 c2 n3 c3 B : Nat) (w : World) (hn1 : m.cs.length = n1) (hn2 : m.fs.length = n2) (hn3 : m.xs.length = n3) (h : IsM w (fun b => b < B) m a1 c1 a2 c2 a3 c3) (hB : B ≤ w.heap.size) :
    Calls Tryz.prog 116 #[.agg #[.slice a1 n1 c1, .slice a2 n2 c2, .slice a3 n3 c3]] w fun e w' => e = .returned (.bool (formedB m)) ∧ Below w.heap.size w w' := by
  have HL := h.len
  rw [hn1, hn2, hn3] at HL
  obtain ⟨l1, l2, l3⟩ := HL
  obtain ⟨g, hg⟩ : ∃ g, w.heap.size = g := ⟨_, rfl⟩
  have BX := BoxN.mk' w #[.slice a1 n1 c1, .slice a2 n2 c2, .slice a3 n3 c3] 47
  obtain ⟨w1, hw1⟩ : ∃ w1, w.alloc (.cells #[.slice a1 n1 c1, .slice a2 n2 c2, .slice a3 n3 c3] 47) = w1 := ⟨_, rfl⟩
  rw [hw1] at BX
  have H1 : Hid (w1.heap[g]? = some (.cells #[.slice a1 n1 c1, .slice a2 n2 c2, .slice a3 n3 c3] 47 (0, 0)) ∧ IsM w1 (fun b => b < B) m a1 c1 a2 c2 a3 c3 ∧ B ≤ w1.heap.size ∧ Below w.heap.size w w1) := hide ⟨by rw [← hg]; exact BX.row, h.later (BX.below.mono hB), by have := BX.size; omega, BX.below⟩
  have HN := hide (And.intro hn1 (And.intro hn2 hn3))
  obtain ⟨R, hR⟩ : ∃ R, formedB m = R := ⟨_, rfl⟩
  have HR := hide hR
  rw [hR]
  clear h hB BX hn1 hn2 hn3 hR
  go_enter Tryz.func116, Tryz.ntmps116
  go_wp2_with fail
  refine (sections_any _).mono ?_
  rintro e w2 ⟨rfl, BS⟩
  obtain ⟨gs, hgs⟩ : ∃ gs, w1.heap.size = gs := ⟨_, rfl⟩
  rw [hgs]
  have H2 : Hid (Sees w2 B g gs m (.slice a1 n1 c1) (.slice a2 n2 c2) (.slice a3 n3 c3) a1 c1 a2 c2 a3 c3 ∧ Below w.heap.size w w2) := hide (by
    obtain ⟨q1, q2, q3, q4⟩ := unhide H1
    exact ⟨⟨(BS.below.block g (lt_of_row q1)).trans q1, by rw [← hgs]; exact BS.row, q2.later (BS.below.mono q3), Nat.le_trans q3 BS.below.size⟩, q4.trans (BS.below.mono q4.size)⟩)
  clear BS hgs H1 hw1 w1
  go_wp2_with fail
  go_loopw [14] (fun x wr => ∃ (i : Nat), x = .int .i64 (i : Int) ∧ Hid (i ≤ 3) ∧ Hid (Sees wr B g gs m (.slice a1 n1 c1) (.slice a2 n2 c2) (.slice a3 n3 c3) a1 c1 a2 c2 a3 c3 ∧ Below w.heap.size w wr) ∧ Hid ((0 < i → n1 ≤ 100) ∧ (1 < i → n2 ≤ 24) ∧ (2 < i → n3 ≤ 24))) (fun x _ => 3 - (intOf x).toNat)
  case atStart => exact ⟨0, rfl, hide (by omega), H2, hide ⟨fun h => by omega, fun h => by omega, fun h => by omega⟩⟩
  case round =>
    obtain ⟨i, rfl, HI, HS, HC⟩ := hrel
    clear H2
    obtain ⟨m0, m1, m2⟩ := row_cell3 (unhide HS).1.box
    rcases (show i = 0 ∨ i = 1 ∨ i = 2 ∨ i = 3 by have := unhide HI; omega) with rfl | rfl | rfl | hi3
    · have k0 : wr.cell? ⟨gs, 0, none⟩ = some (.int .i64 100) := sec_cells (unhide HS).1.sec 0 _ rfl
      have k1 : wr.cell? ⟨gs, 1, none⟩ = some (.func (.func 159) #[] #[]) := sec_cells (unhide HS).1.sec 1 _ rfl
      have k2 : wr.cell? ⟨gs, 2, none⟩ = some (.func (.func 160) #[] #[]) := sec_cells (unhide HS).1.sec 2 _ rfl
      have k3 : wr.cell? ⟨gs, 3, none⟩ = some (.func (.func 161) #[] #[]) := sec_cells (unhide HS).1.sec 3 _ rfl
      obtain ⟨q, hq⟩ : ∃ q, wr.heap.size = q := ⟨_, rfl⟩
      have BQ := BoxN.mk' wr #[.int .i64 100, .func (.func 159) #[] #[], .func (.func 160) #[] #[], .func (.func 161) #[] #[]] 195
      obtain ⟨w3, hw3⟩ : ∃ w3, wr.alloc (.cells #[.int .i64 100, .func (.func 159) #[] #[], .func (.func 160) #[] #[], .func (.func 161) #[] #[]] 195) = w3 := ⟨_, rfl⟩
      rw [hw3] at BQ
      obtain ⟨d0, d1, d2, d3⟩ := row_cell4 (by have := BQ.row; rw [hq] at this; exact this)
      have HS3 : Hid (Sees w3 B g gs m (.slice a1 n1 c1) (.slice a2 n2 c2) (.slice a3 n3 c3) a1 c1 a2 c2 a3 c3 ∧ Below w.heap.size w w3) := hide ⟨(unhide HS).1.later BQ.below, below_box (unhide HS).2 BQ⟩
      obtain ⟨e0, e1, e2⟩ := row_cell3 (unhide HS3).1.box
      clear BQ m0 m1 m2
      have S1 : Hid (∀ u, Below w3.heap.size w3 u → u.cell? ⟨q, 0, none⟩ = some (.int .i64 100) ∧ u.cell? ⟨q, 1, none⟩ = some (.func (.func 159) #[] #[]) ∧ u.cell? ⟨g, 0, none⟩ = some (.slice a1 n1 c1) ∧ u.cell? ⟨g, 1, none⟩ = some (.slice a2 n2 c2) ∧ u.cell? ⟨g, 2, none⟩ = some (.slice a3 n3 c3)) := hide (fun u hu => ⟨cell_later hu d0, cell_later hu d1, cell_later hu e0, cell_later hu e1, cell_later hu e2⟩)
      have t1 : (100 : Int) < (n1 : Int) ∨ ¬ (100 : Int) < (n1 : Int) := by omega
      go_upto_region 4 with fail
      go_region_held3 (fun u => u.cell? ⟨q, 0, none⟩ = some (.int .i64 100) ∧ u.cell? ⟨q, 1, none⟩ = some (.func (.func 159) #[] #[]) ∧ u.cell? ⟨g, 0, none⟩ = some (.slice a1 n1 c1) ∧ u.cell? ⟨g, 1, none⟩ = some (.slice a2 n2 c2) ∧ u.cell? ⟨g, 2, none⟩ = some (.slice a3 n3 c3))
        (first | go_keep | (have hb6 := below_drew_of' b5; exact unhide S1 _ hb6))
        (first | (go_at_call 159; refine (count1_any _ _ _ _ _ _ _ _ _ _).mono ?_; rintro e w5 ⟨rfl, b5⟩))
      have HS5 : Hid (Sees w5 B g gs m (.slice a1 n1 c1) (.slice a2 n2 c2) (.slice a3 n3 c3) a1 c1 a2 c2 a3 c3 ∧ Below w.heap.size w w5) := hide (by have hb6 := below_drew_of' b5; exact ⟨(unhide HS3).1.later hb6, (unhide HS3).2.trans (hb6.mono (unhide HS3).2.size)⟩)
      clear b5 S1 HS3 HS d0 d1 d2 d3 e0 e1 e2 k0 k1 k2 k3
      rcases t1 with t1 | t1
      · have HF : Hid (formedB m = false) := hide (form_n (by have := unhide HN; omega))
        go_wp2_with fail
        go_ret
        exact ⟨by rw [← unhide HR, unhide HF]; rfl, (unhide HS5).2⟩
      · have HC5 : Hid ((0 < 0 + 1 → n1 ≤ 100) ∧ (1 < 0 + 1 → n2 ≤ 24) ∧ (2 < 0 + 1 → n3 ≤ 24)) := hide (by have := unhide HC; omega)
        go_wp2_with fail
        go_roundw
        case rel => exact ⟨1, rfl, hide (by omega), HS5, HC5⟩
        case measure => simp [intOf]
    · have k0 : wr.cell? ⟨gs, 4, none⟩ = some (.int .i64 24) := sec_cells (unhide HS).1.sec 4 _ rfl
      have k1 : wr.cell? ⟨gs, 5, none⟩ = some (.func (.func 162) #[] #[]) := sec_cells (unhide HS).1.sec 5 _ rfl
      have k2 : wr.cell? ⟨gs, 6, none⟩ = some (.func (.func 163) #[] #[]) := sec_cells (unhide HS).1.sec 6 _ rfl
      have k3 : wr.cell? ⟨gs, 7, none⟩ = some (.func (.func 164) #[] #[]) := sec_cells (unhide HS).1.sec 7 _ rfl
      obtain ⟨q, hq⟩ : ∃ q, wr.heap.size = q := ⟨_, rfl⟩
      have BQ := BoxN.mk' wr #[.int .i64 24, .func (.func 162) #[] #[], .func (.func 163) #[] #[], .func (.func 164) #[] #[]] 195
      obtain ⟨w3, hw3⟩ : ∃ w3, wr.alloc (.cells #[.int .i64 24, .func (.func 162) #[] #[], .func (.func 163) #[] #[], .func (.func 164) #[] #[]] 195) = w3 := ⟨_, rfl⟩
      rw [hw3] at BQ
      obtain ⟨d0, d1, d2, d3⟩ := row_cell4 (by have := BQ.row; rw [hq] at this; exact this)
      have HS3 : Hid (Sees w3 B g gs m (.slice a1 n1 c1) (.slice a2 n2 c2) (.slice a3 n3 c3) a1 c1 a2 c2 a3 c3 ∧ Below w.heap.size w w3) := hide ⟨(unhide HS).1.later BQ.below, below_box (unhide HS).2 BQ⟩
      obtain ⟨e0, e1, e2⟩ := row_cell3 (unhide HS3).1.box
      clear BQ m0 m1 m2
      have S1 : Hid (∀ u, Below w3.heap.size w3 u → u.cell? ⟨q, 0, none⟩ = some (.int .i64 24) ∧ u.cell? ⟨q, 1, none⟩ = some (.func (.func 162) #[] #[]) ∧ u.cell? ⟨g, 0, none⟩ = some (.slice a1 n1 c1) ∧ u.cell? ⟨g, 1, none⟩ = some (.slice a2 n2 c2) ∧ u.cell? ⟨g, 2, none⟩ = some (.slice a3 n3 c3)) := hide (fun u hu => ⟨cell_later hu d0, cell_later hu d1, cell_later hu e0, cell_later hu e1, cell_later hu e2⟩)
      have t1 : (24 : Int) < (n2 : Int) ∨ ¬ (24 : Int) < (n2 : Int) := by omega
      go_upto_region 4 with fail
      go_region_held3 (fun u => u.cell? ⟨q, 0, none⟩ = some (.int .i64 24) ∧ u.cell? ⟨q, 1, none⟩ = some (.func (.func 162) #[] #[]) ∧ u.cell? ⟨g, 0, none⟩ = some (.slice a1 n1 c1) ∧ u.cell? ⟨g, 1, none⟩ = some (.slice a2 n2 c2) ∧ u.cell? ⟨g, 2, none⟩ = some (.slice a3 n3 c3))
        (first | go_keep | (have hb6 := below_drew_of' b5; exact unhide S1 _ hb6))
        (first | (go_at_call 162; refine (count2_any _ _ _ _ _ _ _ _ _ _).mono ?_; rintro e w5 ⟨rfl, b5⟩))
      have HS5 : Hid (Sees w5 B g gs m (.slice a1 n1 c1) (.slice a2 n2 c2) (.slice a3 n3 c3) a1 c1 a2 c2 a3 c3 ∧ Below w.heap.size w w5) := hide (by have hb6 := below_drew_of' b5; exact ⟨(unhide HS3).1.later hb6, (unhide HS3).2.trans (hb6.mono (unhide HS3).2.size)⟩)
      clear b5 S1 HS3 HS d0 d1 d2 d3 e0 e1 e2 k0 k1 k2 k3
      rcases t1 with t1 | t1
      · have HF : Hid (formedB m = false) := hide (form_n (by have := unhide HN; omega))
        go_wp2_with fail
        go_ret
        exact ⟨by rw [← unhide HR, unhide HF]; rfl, (unhide HS5).2⟩
      · have HC5 : Hid ((0 < 1 + 1 → n1 ≤ 100) ∧ (1 < 1 + 1 → n2 ≤ 24) ∧ (2 < 1 + 1 → n3 ≤ 24)) := hide (by have := unhide HC; omega)
        go_wp2_with fail
        go_roundw
        case rel => exact ⟨2, rfl, hide (by omega), HS5, HC5⟩
        case measure => simp [intOf]
    · have k0 : wr.cell? ⟨gs, 8, none⟩ = some (.int .i64 24) := sec_cells (unhide HS).1.sec 8 _ rfl
      have k1 : wr.cell? ⟨gs, 9, none⟩ = some (.func (.func 165) #[] #[]) := sec_cells (unhide HS).1.sec 9 _ rfl
      have k2 : wr.cell? ⟨gs, 10, none⟩ = some (.func (.func 166) #[] #[]) := sec_cells (unhide HS).1.sec 10 _ rfl
      have k3 : wr.cell? ⟨gs, 11, none⟩ = some (.func (.func 167) #[] #[]) := sec_cells (unhide HS).1.sec 11 _ rfl
      obtain ⟨q, hq⟩ : ∃ q, wr.heap.size = q := ⟨_, rfl⟩
      have BQ := BoxN.mk' wr #[.int .i64 24, .func (.func 165) #[] #[], .func (.func 166) #[] #[], .func (.func 167) #[] #[]] 195
      obtain ⟨w3, hw3⟩ : ∃ w3, wr.alloc (.cells #[.int .i64 24, .func (.func 165) #[] #[], .func (.func 166) #[] #[], .func (.func 167) #[] #[]] 195) = w3 := ⟨_, rfl⟩
      rw [hw3] at BQ
      obtain ⟨d0, d1, d2, d3⟩ := row_cell4 (by have := BQ.row; rw [hq] at this; exact this)
      have HS3 : Hid (Sees w3 B g gs m (.slice a1 n1 c1) (.slice a2 n2 c2) (.slice a3 n3 c3) a1 c1 a2 c2 a3 c3 ∧ Below w.heap.size w w3) := hide ⟨(unhide HS).1.later BQ.below, below_box (unhide HS).2 BQ⟩
      obtain ⟨e0, e1, e2⟩ := row_cell3 (unhide HS3).1.box
      clear BQ m0 m1 m2
      have S1 : Hid (∀ u, Below w3.heap.size w3 u → u.cell? ⟨q, 0, none⟩ = some (.int .i64 24) ∧ u.cell? ⟨q, 1, none⟩ = some (.func (.func 165) #[] #[]) ∧ u.cell? ⟨g, 0, none⟩ = some (.slice a1 n1 c1) ∧ u.cell? ⟨g, 1, none⟩ = some (.slice a2 n2 c2) ∧ u.cell? ⟨g, 2, none⟩ = some (.slice a3 n3 c3)) := hide (fun u hu => ⟨cell_later hu d0, cell_later hu d1, cell_later hu e0, cell_later hu e1, cell_later hu e2⟩)
      have t1 : (24 : Int) < (n3 : Int) ∨ ¬ (24 : Int) < (n3 : Int) := by omega
      go_upto_region 4 with fail
      go_region_held3 (fun u => u.cell? ⟨q, 0, none⟩ = some (.int .i64 24) ∧ u.cell? ⟨q, 1, none⟩ = some (.func (.func 165) #[] #[]) ∧ u.cell? ⟨g, 0, none⟩ = some (.slice a1 n1 c1) ∧ u.cell? ⟨g, 1, none⟩ = some (.slice a2 n2 c2) ∧ u.cell? ⟨g, 2, none⟩ = some (.slice a3 n3 c3))
        (first | go_keep | (have hb6 := below_drew_of' b5; exact unhide S1 _ hb6))
        (first | (go_at_call 165; refine (count3_any _ _ _ _ _ _ _ _ _ _).mono ?_; rintro e w5 ⟨rfl, b5⟩))
      have HS5 : Hid (Sees w5 B g gs m (.slice a1 n1 c1) (.slice a2 n2 c2) (.slice a3 n3 c3) a1 c1 a2 c2 a3 c3 ∧ Below w.heap.size w w5) := hide (by have hb6 := below_drew_of' b5; exact ⟨(unhide HS3).1.later hb6, (unhide HS3).2.trans (hb6.mono (unhide HS3).2.size)⟩)
      clear b5 S1 HS3 HS d0 d1 d2 d3 e0 e1 e2 k0 k1 k2 k3
      rcases t1 with t1 | t1
      · have HF : Hid (formedB m = false) := hide (form_n (by have := unhide HN; omega))
        go_wp2_with fail
        go_ret
        exact ⟨by rw [← unhide HR, unhide HF]; rfl, (unhide HS5).2⟩
      · have HC5 : Hid ((0 < 2 + 1 → n1 ≤ 100) ∧ (1 < 2 + 1 → n2 ≤ 24) ∧ (2 < 2 + 1 → n3 ≤ 24)) := hide (by have := unhide HC; omega)
        go_wp2_with fail
        go_roundw
        case rel => exact ⟨3, rfl, hide (by omega), HS5, HC5⟩
        case measure => simp [intOf]
    · have HC3 : Hid (n1 ≤ 100 ∧ n2 ≤ 24 ∧ n3 ≤ 24) := hide (by have := unhide HC; omega)
      have j0 : ¬ (i : Int) < 3 := by omega
      obtain ⟨i0, hi0⟩ : ∃ i0, (i : Int) = i0 := ⟨_, rfl⟩
      rw [hi0] at j0 ⊢
      clear HC HI hi3 hi0
      go_wp2_with fail
      go_loopw [29] (fun x wr => ∃ (i : Nat), x = .int .i64 (i : Int) ∧ Hid (i ≤ n1) ∧ Hid (Sees wr B g gs m (.slice a1 n1 c1) (.slice a2 n2 c2) (.slice a3 n3 c3) a1 c1 a2 c2 a3 c3 ∧ Below w.heap.size w wr) ∧ Hid ((m.cs.take i).all rightB = true)) (fun x _ => n1 - (intOf x).toNat)
      case atStart => exact ⟨0, rfl, hide (by omega), HS, hide (by simp)⟩
      case round =>
        clear HS m0 m1 m2
        obtain ⟨i, rfl, HI, HS, HA⟩ := hrel
        obtain ⟨m0, m1, m2⟩ := row_cell3 (unhide HS).1.box
        by_cases hlt : i < n1
        · have j1 : (i : Int) < (n1 : Int) := by omega
          have HI1 : Hid (i + 1 ≤ n1) := hide (by omega)
          obtain ⟨v, hv⟩ : ∃ v, m.cs[i]? = some v := ⟨_, List.getElem?_eq_getElem (by have := unhide HN; omega)⟩
          obtain ⟨a, x0, x1, x2, al', ak', ll', m', cl', ck', rfl, _, hc, hp⟩ := (unhide HS).1.mod.const i v hv
          have k0 : wr.cell? (a.add (i * 5)) = some (.int .i64 x0) := hc 0 _ rfl
          have k1 : wr.cell? ⟨(a.add (i * 5)).block, (a.add (i * 5)).off + 1, none⟩ = some (.int .i64 x1) := hc 1 _ rfl
          have k2 : wr.cell? ⟨(a.add (i * 5)).block, (a.add (i * 5)).off + 2, none⟩ = some (.string x2) := hc 2 _ rfl
          have k3 : wr.cell? ⟨(a.add (i * 5)).block, (a.add (i * 5)).off + 3, none⟩ = some (.slice al' ll' cl') := hc 3 _ rfl
          have k4 : wr.cell? ⟨(a.add (i * 5)).block, (a.add (i * 5)).off + 4, none⟩ = some (.slice ak' m' ck') := hc 4 _ rfl
          have BQ := Box.mk' wr (.int .i64 x0) (.int .i64 x1) (.string x2) (.slice al' ll' cl') (.slice ak' m' ck')
          obtain ⟨w3, hw3⟩ : ∃ w3, wr.alloc (.cells #[.int .i64 x0, .int .i64 x1, .string x2, .slice al' ll' cl', .slice ak' m' ck'] 29) = w3 := ⟨_, rfl⟩
          rw [hw3] at BQ
          obtain ⟨q, hq⟩ : ∃ q, wr.heap.size = q := ⟨_, rfl⟩
          obtain ⟨d0, d1, d2, d3, d4⟩ := row_cell (by have := BQ.row; rw [hq] at this; exact this)
          have HS3 : Hid (Sees w3 B g gs m (.slice (some a) n1 c1) (.slice a2 n2 c2) (.slice a3 n3 c3) (some a) c1 a2 c2 a3 c3 ∧ Below w.heap.size w w3) := hide ⟨(unhide HS).1.later BQ.below, (unhide HS).2.trans (BQ.below.mono (unhide HS).2.size)⟩
          have CR := hide (right_code v _ B w3 (IsV.mono (BQ.below.mono (unhide HS).1.low) hp) (unhide HS3).1.low)
          have HV := hide hv
          clear hc hp hv BQ
          cases hb : rightB v with
          | true =>
            rw [hb] at CR
            have HA1 : Hid ((m.cs.take (i + 1)).all rightB = true) := hide (all_take _ _ _ _ (unhide HV) (unhide HA) hb)
            clear hb
            go_wp2_with fail
            refine (unhide CR).mono ?_
            rintro e u ⟨rfl, b1⟩
            have HS5 : Hid (Sees u B g gs m (.slice (some a) n1 c1) (.slice a2 n2 c2) (.slice a3 n3 c3) (some a) c1 a2 c2 a3 c3 ∧ Below w.heap.size w u) := hide ⟨(unhide HS3).1.later b1, (unhide HS3).2.trans (b1.mono (unhide HS3).2.size)⟩
            clear b1 CR
            go_wp2_with fail
            go_roundw
            case rel => exact ⟨i + 1, by go_num, HI1, HS5, HA1⟩
            case measure => have := unhide HI1; simp [intOf]; omega
          | false =>
            rw [hb] at CR
            have HF : Hid (formedB m = false) := hide (form_c (all_bad _ _ _ _ (unhide HV) hb))
            clear hb
            go_wp2_with fail
            refine (unhide CR).mono ?_
            rintro e u ⟨rfl, b1⟩
            have B5 : Hid (Below w.heap.size w u) := hide ((unhide HS3).2.trans (b1.mono (unhide HS3).2.size))
            clear b1 CR
            go_wp2_with fail
            go_ret
            exact ⟨by rw [← unhide HR, unhide HF]; rfl, unhide B5⟩
        · have j1 : ¬ (i : Int) < (n1 : Int) := by omega
          have HA1 : Hid (m.cs.all rightB = true) := hide (by have := unhide HA; rw [List.take_of_length_le (by have := unhide HN; omega)] at this; exact this)
          clear HA HI
          go_wp2_with fail
          go_loopw [40] (fun x wr => ∃ (i : Nat), x = .int .i64 (i : Int) ∧ Hid (i ≤ n2) ∧ Hid (Sees wr B g gs m (.slice a1 n1 c1) (.slice a2 n2 c2) (.slice a3 n3 c3) a1 c1 a2 c2 a3 c3 ∧ Below w.heap.size w wr) ∧ Hid ((m.fs.take i).all fnB = true)) (fun x _ => n2 - (intOf x).toNat)
          case atStart => exact ⟨0, rfl, hide (by omega), HS, hide (by simp)⟩
          case round =>
            clear HS m0 m1 m2
            obtain ⟨i, rfl, HI, HS, HA⟩ := hrel
            obtain ⟨m0, m1, m2⟩ := row_cell3 (unhide HS).1.box
            by_cases hlt : i < n2
            · have j1 : (i : Int) < (n2 : Int) := by omega
              have HI1 : Hid (i + 1 ≤ n2) := hide (by omega)
              obtain ⟨f, hv⟩ : ∃ v, m.fs[i]? = some v := ⟨_, List.getElem?_eq_getElem (by have := unhide HN; omega)⟩
              obtain ⟨fp, fl, fk, ft⟩ := f
              obtain ⟨a, rfl, _, ht, k0, k1, k2, k3⟩ := (unhide HS).1.mod.func i fp fl fk ft hv
              have BQ := BoxN.mk' wr #[.int .i64 fp, .int .i64 fl, .int .i64 fk, .string ft] 41
              obtain ⟨w3, hw3⟩ : ∃ w3, wr.alloc (.cells #[.int .i64 fp, .int .i64 fl, .int .i64 fk, .string ft] 41) = w3 := ⟨_, rfl⟩
              rw [hw3] at BQ
              obtain ⟨q, hq⟩ : ∃ q, wr.heap.size = q := ⟨_, rfl⟩
              obtain ⟨d0, d1, d2, d3⟩ := row_cell4 (by have := BQ.row; rw [hq] at this; exact this)
              have HS3 : Hid (Sees w3 B g gs m (.slice a1 n1 c1) (.slice (some a) n2 c2) (.slice a3 n3 c3) a1 c1 (some a) c2 a3 c3 ∧ Below w.heap.size w w3) := hide ⟨(unhide HS).1.later BQ.below, (unhide HS).2.trans (BQ.below.mono (unhide HS).2.size)⟩
              have CR := hide (formedFunc_any fp fl fk ft w3 ht)
              have HV := hide hv
              clear hv BQ
              cases hb : fnB (fp, fl, fk, ft) with
              | true =>
                rw [hb] at CR
                have HA2 : Hid ((m.fs.take (i + 1)).all fnB = true) := hide (all_take _ _ _ _ (unhide HV) (unhide HA) hb)
                clear hb
                go_wp2_with fail
                refine (unhide CR).mono ?_
                rintro e u ⟨rfl, b1⟩
                have HS5 : Hid (Sees u B g gs m (.slice a1 n1 c1) (.slice (some a) n2 c2) (.slice a3 n3 c3) a1 c1 (some a) c2 a3 c3 ∧ Below w.heap.size w u) := hide ⟨(unhide HS3).1.later b1, (unhide HS3).2.trans (b1.mono (unhide HS3).2.size)⟩
                clear b1 CR
                go_wp2_with fail
                go_roundw
                case rel => exact ⟨i + 1, by go_num, HI1, HS5, HA2⟩
                case measure => have := unhide HI1; simp [intOf]; omega
              | false =>
                rw [hb] at CR
                have HF : Hid (formedB m = false) := hide (form_f (all_bad _ _ _ _ (unhide HV) hb))
                clear hb
                go_wp2_with fail
                refine (unhide CR).mono ?_
                rintro e u ⟨rfl, b1⟩
                have B5 : Hid (Below w.heap.size w u) := hide ((unhide HS3).2.trans (b1.mono (unhide HS3).2.size))
                clear b1 CR
                go_wp2_with fail
                go_ret
                exact ⟨by rw [← unhide HR, unhide HF]; rfl, unhide B5⟩
            · have j1 : ¬ (i : Int) < (n2 : Int) := by omega
              have HA2 : Hid (m.fs.all fnB = true) := hide (by have := unhide HA; rw [List.take_of_length_le (by have := unhide HN; omega)] at this; exact this)
              clear HA HI
              go_wp2_with fail
              go_loopw [9, 51] (fun y x wr => ∃ (i : Nat) (p : ByteArray), y = .string p ∧ x = .int .i64 (i : Int) ∧ Hid (i ≤ n3) ∧ Hid (Sees wr B g gs m (.slice a1 n1 c1) (.slice a2 n2 c2) (.slice a3 n3 c3) a1 c1 a2 c2 a3 c3 ∧ Below w.heap.size w wr) ∧ Hid (exsB n2 ⟨#[]⟩ m.xs = exsB n2 p (m.xs.drop i))) (fun _ x _ => n3 - (intOf x).toNat)
              case atStart => exact ⟨0, ⟨#[]⟩, rfl, rfl, hide (by omega), HS, hide rfl⟩
              case round =>
                clear HS m0 m1 m2
                obtain ⟨i, p, rfl, rfl, HI, HS, HA⟩ := hrel
                obtain ⟨m0, m1, m2⟩ := row_cell3 (unhide HS).1.box
                by_cases hlt : i < n3
                · have j1 : (i : Int) < (n3 : Int) := by omega
                  have HI1 : Hid (i + 1 ≤ n3) := hide (by omega)
                  obtain ⟨x, hv⟩ : ∃ v, m.xs[i]? = some v := ⟨_, List.getElem?_eq_getElem (by have := unhide HN; omega)⟩
                  obtain ⟨s, f⟩ := x
                  obtain ⟨a, rfl, _, ht, k0, k1⟩ := (unhide HS).1.mod.exp i s f hv
                  have hE := exs_at n2 m.xs i p (s, f) hv
                  rw [← unhide HA] at hE
                  have BQ := BoxN.mk' wr #[.string s, .int .i64 f] 44
                  obtain ⟨w3, hw3⟩ : ∃ w3, wr.alloc (.cells #[.string s, .int .i64 f] 44) = w3 := ⟨_, rfl⟩
                  rw [hw3] at BQ
                  obtain ⟨q, hq⟩ : ∃ q, wr.heap.size = q := ⟨_, rfl⟩
                  obtain ⟨d0, d1⟩ := row_cell2 (by have := BQ.row; rw [hq] at this; exact this)
                  have HS3 : Hid (Sees w3 B g gs m (.slice a1 n1 c1) (.slice a2 n2 c2) (.slice (some a) n3 c3) a1 c1 a2 c2 (some a) c3 ∧ Below w.heap.size w w3) := hide ⟨(unhide HS).1.later BQ.below, (unhide HS).2.trans (BQ.below.mono (unhide HS).2.size)⟩
                  obtain ⟨e0, e1, e2⟩ := row_cell3 (unhide HS3).1.box
                  have CR := hide (isName_any s w3 ht)
                  have b2 := bl_not p.toList s.toList
                  unfold exB at hE
                  dsimp only at hE
                  clear hv BQ
                  have HB5 : Hid (Below w.heap.size w w3) := hide (unhide HS3).2
                  cases hN : nameB s with
                  | false =>
                    rw [hN] at CR hE
                    have HF : Hid (formedB m = false) := hide (form_x (by rw [(unhide HN).2.1, hE]; rfl))
                    clear hN hE b2
                    go_wp2_with fail
                    refine (unhide CR).mono ?_
                    rintro e u ⟨rfl, rfl⟩
                    go_wp2_with fail
                    go_ret
                    exact ⟨by rw [← unhide HR, unhide HF]; rfl, unhide HB5⟩
                  | true =>
                    rw [hN] at CR hE
                    cases hL : Op.bytesLess p.toList s.toList with
                    | false =>
                      rw [hL] at hE b2
                      have b3 : (Op.bytesLess s.toList p.toList || s.toList == p.toList) = true := by cases h : (Op.bytesLess s.toList p.toList || s.toList == p.toList) with | true => rfl | false => rw [h] at b2; cases b2
                      have HF : Hid (formedB m = false) := hide (form_x (by rw [(unhide HN).2.1, hE]; rfl))
                      clear hN hE b2 hL
                      go_wp2_with fail
                      refine (unhide CR).mono ?_
                      rintro e u ⟨rfl, rfl⟩
                      go_wp2_with fail
                      go_ret
                      exact ⟨by rw [← unhide HR, unhide HF]; rfl, unhide HB5⟩
                    | true =>
                      rw [hL] at hE b2
                      have b3 : (Op.bytesLess s.toList p.toList || s.toList == p.toList) = false := by cases h : (Op.bytesLess s.toList p.toList || s.toList == p.toList) with | false => rfl | true => rw [h] at b2; cases b2
                      by_cases hf0 : f < 0
                      · have HF : Hid (formedB m = false) := hide (form_x (by rw [(unhide HN).2.1, hE, decide_eq_false (show ¬ 0 ≤ f by omega)]; rfl))
                        clear hN hE b2 hL
                        go_wp2_with fail
                        refine (unhide CR).mono ?_
                        rintro e u ⟨rfl, rfl⟩
                        go_wp2_with fail
                        go_ret
                        exact ⟨by rw [← unhide HR, unhide HF]; rfl, unhide HB5⟩
                      · by_cases hf1 : (n2 : Int) ≤ f
                        · have HF : Hid (formedB m = false) := hide (form_x (by rw [(unhide HN).2.1, hE, decide_eq_false (show ¬ f < (n2 : Int) by omega)]; simp))
                          clear hN hE b2 hL
                          go_wp2_with fail
                          refine (unhide CR).mono ?_
                          rintro e u ⟨rfl, rfl⟩
                          go_wp2_with fail
                          go_ret
                          exact ⟨by rw [← unhide HR, unhide HF]; rfl, unhide HB5⟩
                        · have HA3 : Hid (exsB n2 ⟨#[]⟩ m.xs = exsB n2 s (m.xs.drop (i + 1))) := hide (by rw [hE, decide_eq_true (show 0 ≤ f by omega), decide_eq_true (show f < (n2 : Int) by omega)]; rfl)
                          clear hN hE b2 hL
                          go_wp2_with fail
                          refine (unhide CR).mono ?_
                          rintro e u ⟨rfl, rfl⟩
                          go_wp2_with fail
                          go_roundw
                          case rel => exact ⟨i + 1, s, rfl, by go_num, HI1, HS3, HA3⟩
                          case measure => have := unhide HI1; simp [intOf]; omega
                · have j1 : ¬ (i : Int) < (n3 : Int) := by omega
                  have HF : Hid (formedB m = true) := hide (form_all (by have := unhide HN; have := unhide HC3; omega) (unhide HA1) (unhide HA2) (by
                    have := unhide HA
                    rw [List.drop_of_length_le (by have := unhide HN; omega)] at this
                    rw [(unhide HN).2.1, this]
                    rfl))
                  go_wp2_with fail
                  go_ret
                  exact ⟨by rw [← unhide HR, unhide HF]; rfl, by first | exact (unhide HS).2 | (rw [← hg]; exact (unhide HS).2)⟩
end Go.Proofs.YtmnbfcpkaglniaaGreatDoor
