/-
  The walk of value.clone: a value in new memory; conditions: at most 5000 parts, the form's own reach.
-/
import Derived.Test.YtmnbfcpkaglniaaGreatDoorS41
import Derived.Test.YtmnbfcpkaglniaaGreatDoorS13
import Derived.Deep.RegionHeld3
import Derived.Test.YtmnbfcpkaglniaaGreatDoorS01
import Derived.Deep.QuietTactic
import Derived.BigQuiet
set_option linter.unusedVariables false
set_option linter.unusedSimpArgs false
namespace Go.Proofs.YtmnbfcpkaglniaaGreatDoor
open Go.RowKit
set_option linter.unusedVariables false
set_option linter.unusedSimpArgs false
def ClnAt (b : Nat) : Prop := ∀ (v : Vl) (x : Value) (B : Nat) (w : World), dep v ≤ b → cnt v ≤ 5000 → IsV w B v x → B ≤ w.heap.size →
    Calls Tryz.prog 45 #[x] w fun e w' => ∃ x', e = .returned x' ∧ IsQ w' (fun b => w.heap.size ≤ b ∧ b < w'.heap.size) v x' ∧ Below w.heap.size w w'
theorem cln_zero : ClnAt 0 := by
  intro v x B w h
  have := dep_pos v
  omega
/-- what clone keeps beside the value that it makes -/
structure Cp (w u : World) (g gb : Nat) (A Z : Array Value) : Prop where
  at0 : u.heap[g]? = some (.cells A 29 (0, 0))
  at1 : u.heap[g + 1]? = some (.cells Z 29 (0, 0))
  low : g + 2 ≤ gb
  size : gb + 1 ≤ u.heap.size
  below : Below g w u
theorem Cp.later {w u u1 : World} {g gb : Nat} {A Z : Array Value} (h : Cp w u g gb A Z) (hu : Below u.heap.size u u1) : Cp w u1 g gb A Z := by
  have hs := h.size
  have hl := h.low
  exact ⟨(hu.block g (by omega)).trans h.at0, (hu.block (g + 1) (by omega)).trans h.at1, hl, Nat.le_trans h.size hu.size, h.below.trans (hu.mono (by omega))⟩
theorem Cp.push {w u w6 : World} {g gb f : Nat} {A Z : Array Value} {row : Option Nat} {v : Value} (h : Cp w u g gb A Z) (hgrow : u.grownBy w6 row) (hrow : ∀ b, row = some b → gb + 1 ≤ b) : Cp w (w6.setCell ⟨gb, f, none⟩ v) g gb A Z := by
  have hs := h.size
  have hl := h.low
  have hg := hgrow.size
  refine ⟨?_, ?_, hl, by simp; omega, (h.below.grown hgrow (by omega) (fun b hb => by have := hrow b hb; omega)).setCell (p := ⟨gb, f, none⟩) (by simp; omega) _⟩
  · rw [heap_setCell_other _ _ _ _ (by simp; omega), hgrow.block g (by omega) (fun e => by have := hrow g e.symm; omega)]; exact h.at0
  · rw [heap_setCell_other _ _ _ _ (by simp; omega), hgrow.block (g + 1) (by omega) (fun e => by have := hrow (g + 1) e.symm; omega)]; exact h.at1
theorem own_base {w : World} {b0 b1 : Nat} {e : TypeId} {size : Nat} {v : Value} {n : Nat} {xs : List Value} (h : w.ownsRow b1 e size v n xs) (hb : b0 ≤ b1) : w.ownsRow b0 e size v n xs := by
  refine ⟨h.1, ?_⟩
  rcases h.2 with h | ⟨g, cap, cur, h1, h2, rest⟩
  · exact .inl h
  · exact .inr ⟨g, cap, cur, h1, by omega, rest⟩
/-- a cell set to what it holds -/
theorem same_set {w : World} {gb f : Nat} {A : Array Value} {T : TypeId} {x : Value} (h : w.heap[gb]? = some (.cells A T (0, 0))) (hf : A.set! f x = A) : Below w.heap.size w (w.setCell ⟨gb, f, none⟩ x) := by
  have B := (Below.refl 0 w).setCell (p := ⟨gb, f, none⟩) (Nat.zero_le _) x
  refine ⟨B.os, B.tape, B.output, by simp, fun k hk => ?_⟩
  by_cases e : k = gb
  · subst e
    rw [heap_setCell_same w k f _ T x h, h]
    congr 2
  · exact heap_setCell_other _ _ _ _ e
theorem Mid.growK {w w6 : World} {base gb : Nat} {k n : Int} {s : ByteArray} {l : List Vl} {ks : List ByteArray} {Lv sv : Value} {i : Nat} {V : Nat → List Value} (h : Mid w base gb k n s l ks Lv (.slice none 0 0) i 0 V) (hb : Below w.heap.size w w6)
    (hs : sv = .slice none 0 0 ∨ ((∃ cap, sv = .slice (some ⟨w.heap.size, 0, none⟩) 0 cap) ∧ w6.ownsRow w.heap.size 9 1 sv 0 [])) : Mid (w6.setCell ⟨gb, 4, none⟩ sv) base gb k n s l ks Lv sv i 0 V := by
  rcases hs with rfl | ⟨⟨cap, rfl⟩, ho⟩
  · have h6 := h.later hb
    exact h6.later (same_set h6.box rfl)
  · exact h.pushK (fun b hl _ => hb.block b hl) hb.size (by simpa using own_base ho h.size) (Or.inr (Nat.le_refl _))
theorem Mid.growL {w w6 : World} {base gb : Nat} {k n : Int} {s : ByteArray} {l : List Vl} {ks : List ByteArray} {Kv sv : Value} {j : Nat} {V : Nat → List Value} (h : Mid w base gb k n s l ks (.slice none 0 0) Kv 0 j V) (hb : Below w.heap.size w w6)
    (hs : sv = .slice none 0 0 ∨ ((∃ cap, sv = .slice (some ⟨w.heap.size, 0, none⟩) 0 cap) ∧ w6.ownsRow w.heap.size 29 5 sv 0 [])) : Mid (w6.setCell ⟨gb, 3, none⟩ sv) base gb k n s l ks sv Kv 0 j V := by
  rcases hs with rfl | ⟨⟨cap, rfl⟩, ho⟩
  · have h6 := h.later hb
    exact h6.later (same_set h6.box rfl)
  · exact h.roomL (fun b hl => hb.block b hl) hb.size (own_base ho h.size) (Nat.le_refl _)
/-- what clone keeps ahead of the value that it makes -/
structure Cz (w u : World) (g : Nat) (A Z : Array Value) : Prop where
  at0 : u.heap[g]? = some (.cells A 29 (0, 0))
  at1 : u.heap[g + 1]? = some (.cells Z 29 (0, 0))
  size : g + 2 ≤ u.heap.size
  below : Below g w u
theorem Cz.later {w u u1 : World} {g : Nat} {A Z : Array Value} (h : Cz w u g A Z) (hu : Below u.heap.size u u1) : Cz w u1 g A Z := by
  have hs := h.size
  exact ⟨(hu.block g (by omega)).trans h.at0, (hu.block (g + 1) (by omega)).trans h.at1, Nat.le_trans h.size hu.size, h.below.trans (hu.mono (by omega))⟩
theorem Cz.start (w : World) (A Z : Array Value) (g : Nat) (hg : w.heap.size = g) : Cz w ((w.alloc (.cells A 29)).alloc (.cells Z 29)).drew g A Z := by
  subst hg
  have h1 := heap_alloc_new (w.alloc (.cells A 29)) (.cells Z 29)
  have h0 := heap_alloc_new w (.cells A 29)
  have b1 := (Below.refl (w.alloc (.cells A 29)).heap.size (w.alloc (.cells A 29))).alloc (Nat.le_refl _) (.cells Z 29)
  refine ⟨?_, ?_, ?_, (((Below.refl _ _).alloc (Nat.le_refl _) _).alloc (by simp) _).drew⟩
  · show ((w.alloc (.cells A 29)).alloc (.cells Z 29)).heap[w.heap.size]? = _
    rw [b1.block w.heap.size (by simp)]; exact h0
  · show ((w.alloc (.cells A 29)).alloc (.cells Z 29)).heap[w.heap.size + 1]? = _
    simpa using h1
  · show w.heap.size + 2 ≤ ((w.alloc (.cells A 29)).alloc (.cells Z 29)).heap.size
    simp
/-- the value that is made, as it is laid -/
theorem cln_start {w u : World} {g gb : Nat} {A Z : Array Value} (h : Cz w u g A Z) (hlow : g + 2 ≤ gb) (hbox : u.heap[gb]? = some (.cells #[.int .i64 0, .int .i64 0, .string ⟨#[]⟩, .slice none 0 0, .slice none 0 0] 29 (0, 0))) (k n : Int) (s : ByteArray) (l : List Vl) (ks : List ByteArray) :
    Cp w (((((u.setCell ⟨gb, 0, none⟩ (.int .i64 k)).setCell ⟨gb, 1, none⟩ (.int .i64 n)).setCell ⟨gb, 2, none⟩ (.string s)).setCell ⟨gb, 3, none⟩ (.slice none 0 0)).setCell ⟨gb, 4, none⟩ (.slice none 0 0)) g gb A Z ∧
    Mid (((((u.setCell ⟨gb, 0, none⟩ (.int .i64 k)).setCell ⟨gb, 1, none⟩ (.int .i64 n)).setCell ⟨gb, 2, none⟩ (.string s)).setCell ⟨gb, 3, none⟩ (.slice none 0 0)).setCell ⟨gb, 4, none⟩ (.slice none 0 0)) (gb + 1) gb k n s l ks (.slice none 0 0) (.slice none 0 0) 0 0 (fun _ => []) := by
  have hl := (Array.getElem?_eq_some_iff.1 hbox).1
  have R := five_set u gb 29 _ _ _ _ _ (.int .i64 k) (.int .i64 n) (.string s) (.slice none 0 0) (.slice none 0 0) hbox
  have O := five_other u gb (x0 := .int .i64 k) (x1 := .int .i64 n) (x2 := .string s) (x3 := .slice none 0 0) (x4 := .slice none 0 0)
  have S : (((((u.setCell ⟨gb, 0, none⟩ (.int .i64 k)).setCell ⟨gb, 1, none⟩ (.int .i64 n)).setCell ⟨gb, 2, none⟩ (.string s)).setCell ⟨gb, 3, none⟩ (.slice none 0 0)).setCell ⟨gb, 4, none⟩ (.slice none 0 0)).heap.size = u.heap.size := by simp
  refine ⟨⟨(O g (by omega)).trans h.at0, (O (g + 1) (by omega)).trans h.at1, hlow, by omega, five_below h.below (by omega) _ _ _ _ _⟩, R, by omega, by omega, World.ownsRow_nil _ _ _ _, World.ownsRow_nil _ _ _ _, Or.inl rfl, fun c h => by omega, fun c y h => by omega⟩
theorem Cp.set {w u : World} {g gb f : Nat} {A Z : Array Value} (h : Cp w u g gb A Z) (v : Value) : Cp w (u.setCell ⟨gb, f, none⟩ v) g gb A Z := by
  have hl := h.low
  have hs := h.size
  refine ⟨?_, ?_, hl, by simpa using hs, h.below.setCell (p := ⟨gb, f, none⟩) (by show g ≤ gb; omega) _⟩
  · rw [heap_setCell_other _ _ _ _ (by show g ≠ gb; omega)]; exact h.at0
  · rw [heap_setCell_other _ _ _ _ (by show g + 1 ≠ gb; omega)]; exact h.at1
set_option maxRecDepth 100000 in
set_option maxHeartbeats 1000000 in
theorem cln_step (b : Nat) (ih : ClnAt b) : ClnAt (b + 1) := by
  intro v x B w hd hc5 hv hBs
  obtain ⟨k, n, s, l, ks, al, ak, cl, ck, rfl, rfl⟩ := hv.shape
  obtain ⟨m, hm⟩ : ∃ m, ks.length = m := ⟨_, rfl⟩
  obtain ⟨ln, hln⟩ : ∃ ln, l.length = ln := ⟨_, rfl⟩
  have hbd : ((-9223372036854775808 ≤ k ∧ k ≤ 9223372036854775807) ∧ (-9223372036854775808 ≤ n ∧ n ≤ 9223372036854775807) ∧ s.size ≤ 140737488351232 ∧ 16 * ks.length ≤ 140737488351232 ∧ ∀ t ∈ ks, t.size ≤ 140737488351232) ∧ (ks.length ≤ ck ∧ ks.length ≤ 140737488351232) ∧ (ak = none → ks.length = 0) := by
    obtain ⟨_, _, _, _, _, V, hf, _⟩ := IsP.at hv
    exact ⟨⟨hf.bk, hf.bn, hf.bs, hf.bq, hf.bt⟩, ⟨hf.lk, hf.bc⟩, fun e => (hf.nk e).1⟩
  obtain ⟨HBD, hck, hak⟩ := hbd
  have HBD := hide HBD
  have hm16 := (unhide HBD).2.2.2.1
  rw [hm] at hck hak hm16
  have hlb : ln ≤ 5000 := by have := len_cntL l; simp only [cnt] at hc5; omega
  have HCN : Hid (cntL l ≤ 5000) := hide (by simp only [cnt] at hc5; omega)
  rw [hm, hln] at hv
  rw [hm, hln]
  obtain ⟨g, hg⟩ : ∃ g, w.heap.size = g := ⟨_, rfl⟩
  have HL := hide (And.intro hm hln)
  have hdl : ∀ i y, l[i]? = some y → dep y ≤ b := fun i y h => by have h1 := dep_elem l i y h; simp only [dep] at hd; omega
  have HD := hide hdl
  have HV : Hid (∀ u, Below g w u → IsV u B (.mk k n s l ks) (.agg #[.int .i64 k, .int .i64 n, .string s, .slice al ln cl, .slice ak m ck])) := hide (fun u hu => hv.mono (hu.mono (by omega)))
  have hBg : B ≤ g := by omega
  clear hv hm hln hdl hd hc5
  go_enter Tryz.func45, Tryz.ntmps45
  go_upto_region 1 with fail
  have HS0 := hide (Cz.start w #[.int .i64 k, .int .i64 n, .string s, .slice al ln cl, .slice ak m ck] #[.int .i64 0, .int .i64 0, .string ⟨#[]⟩, .slice none 0 0, .slice none 0 0] g hg)
  go_cut [3] from 8 to 15 (fun x3 wx => ∃ gb : Nat, x3 = .pointer (some ⟨gb, 0, none⟩) ∧ Hid (Cp w wx g gb #[.int .i64 k, .int .i64 n, .string s, .slice al ln cl, .slice ak m ck] #[.int .i64 0, .int .i64 0, .string ⟨#[]⟩, .slice none 0 0, .slice none 0 0]) ∧ Hid (Mid wx (gb + 1) gb k n s l ks (.slice none 0 0) (.slice none 0 0) 0 0 (fun _ => [])))
  case first =>
    refine till_begin (S := fun w' => Cz w w' g #[.int .i64 k, .int .i64 n, .string s, .slice al ln cl, .slice ak m ck] #[.int .i64 0, .int .i64 0, .string ⟨#[]⟩, .slice none 0 0, .slice none 0 0]) 9 (by kernel_rfl) ?_
    obtain ⟨w2, hw2⟩ : ∃ w2, ((w.alloc (.cells #[.int .i64 k, .int .i64 n, .string s, .slice al ln cl, .slice ak m ck] 29)).alloc (.cells #[.int .i64 0, .int .i64 0, .string ⟨#[]⟩, .slice none 0 0, .slice none 0 0] 29)).drew = w2 := ⟨_, rfl⟩
    rw [hw2] at HS0 ⊢
    clear hw2
    refine till_take 0 (v := .pointer (some ⟨g, 0, none⟩)) (some 8) rfl rfl rfl (by kernel_rfl) (by kernel_rfl) (by kernel_rfl) (by kernel_rfl) (fun _ _ _ h => h) (Or.inl ⟨by rfl, fun u hu => by obtain ⟨c0, c1, c2, c3, c4⟩ := row_cell hu.at0; go_simp⟩) (unhide HS0) ?_
    try simp only [Act.put, List.setIfInBounds_toArray, List.set_cons_zero, List.set_cons_succ]
    refine till_take 1 (v := .int .i64 k) (some 9) rfl rfl rfl (by kernel_rfl) (by kernel_rfl) (by kernel_rfl) (by kernel_rfl) (fun _ _ _ h => h) (Or.inl ⟨by rfl, fun u hu => by obtain ⟨c0, c1, c2, c3, c4⟩ := row_cell hu.at0; go_simp⟩) (unhide HS0) ?_
    try simp only [Act.put, List.setIfInBounds_toArray, List.set_cons_zero, List.set_cons_succ]
    refine till_take 2 (v := .pointer (some ⟨g, 1, none⟩)) (some 10) rfl rfl rfl (by kernel_rfl) (by kernel_rfl) (by kernel_rfl) (by kernel_rfl) (fun _ _ _ h => h) (Or.inl ⟨by rfl, fun u hu => by obtain ⟨c0, c1, c2, c3, c4⟩ := row_cell hu.at0; go_simp⟩) (unhide HS0) ?_
    try simp only [Act.put, List.setIfInBounds_toArray, List.set_cons_zero, List.set_cons_succ]
    refine till_take 3 (v := .int .i64 n) (some 11) rfl rfl rfl (by kernel_rfl) (by kernel_rfl) (by kernel_rfl) (by kernel_rfl) (fun _ _ _ h => h) (Or.inl ⟨by rfl, fun u hu => by obtain ⟨c0, c1, c2, c3, c4⟩ := row_cell hu.at0; go_simp⟩) (unhide HS0) ?_
    try simp only [Act.put, List.setIfInBounds_toArray, List.set_cons_zero, List.set_cons_succ]
    refine till_take 4 (v := .pointer (some ⟨g, 2, none⟩)) (some 12) rfl rfl rfl (by kernel_rfl) (by kernel_rfl) (by kernel_rfl) (by kernel_rfl) (fun _ _ _ h => h) (Or.inl ⟨by rfl, fun u hu => by obtain ⟨c0, c1, c2, c3, c4⟩ := row_cell hu.at0; go_simp⟩) (unhide HS0) ?_
    try simp only [Act.put, List.setIfInBounds_toArray, List.set_cons_zero, List.set_cons_succ]
    refine till_take 5 (v := .string s) (some 13) rfl rfl rfl (by kernel_rfl) (by kernel_rfl) (by kernel_rfl) (by kernel_rfl) (fun _ _ _ h => h) (Or.inl ⟨by rfl, fun u hu => by obtain ⟨c0, c1, c2, c3, c4⟩ := row_cell hu.at0; go_simp⟩) (unhide HS0) ?_
    try simp only [Act.put, List.setIfInBounds_toArray, List.set_cons_zero, List.set_cons_succ]
    refine till_two 6 8 (by kernel_rfl) rfl rfl (fun K hK => ?_) (fun K hK => ?_)
    · go_simp
      refine (str_clone s w2 (unhide HBD).2.2.1).mono ?_
      rintro e u ⟨rfl, bu⟩
      have HS1 := hide ((unhide HS0).later bu)
      clear bu
      go_wp2_with fail
      refine hK.out _ _ (Or.inr (unhide HS1)) ?_
      clear hK K
      try simp only [Act.put, List.setIfInBounds_toArray, List.set_cons_zero, List.set_cons_succ]
      refine till_take 7 (v := .agg #[.int .i64 k, .int .i64 n, .string s, .slice none 0 0, .slice none 0 0]) (some 15) rfl rfl rfl (by kernel_rfl) (by kernel_rfl) (by kernel_rfl) (by kernel_rfl) (fun _ _ _ h => h) (Or.inl ⟨by rfl, fun u hu => by go_simp⟩) (unhide HS1) ?_
      try simp only [Act.put, List.setIfInBounds_toArray, List.set_cons_zero, List.set_cons_succ]
      refine till_one 8 (by kernel_rfl) rfl (fun K hK => ?_)
      go_simp
      obtain ⟨gb, hgb⟩ : ∃ gb, u.heap.size = gb := ⟨_, rfl⟩
      obtain ⟨wb, hwb⟩ : ∃ wb, u.alloc (.cells #[.int .i64 0, .int .i64 0, .string ⟨#[]⟩, .slice none 0 0, .slice none 0 0] 29) = wb := ⟨_, rfl⟩
      have HX : Hid (wb.heap[gb]? = some (.cells #[.int .i64 0, .int .i64 0, .string ⟨#[]⟩, .slice none 0 0, .slice none 0 0] 29 (0, 0)) ∧ g + 2 ≤ gb ∧ Cz w wb g #[.int .i64 k, .int .i64 n, .string s, .slice al ln cl, .slice ak m ck] #[.int .i64 0, .int .i64 0, .string ⟨#[]⟩, .slice none 0 0, .slice none 0 0]) := hide (by
        rw [← hwb, ← hgb]
        exact ⟨heap_alloc_new u _, (unhide HS1).size, (unhide HS1).later ((Below.refl _ _).alloc (Nat.le_refl _) _)⟩)
      rw [hgb, hwb]
      refine hK.out _ _ (Or.inr (unhide HX).2.2) ?_
      clear hK K hwb hgb
      try simp only [Act.put, List.setIfInBounds_toArray, List.set_cons_zero, List.set_cons_succ]
      refine till_one 9 (by kernel_rfl) rfl (fun K hK => ?_)
      obtain ⟨d0, d1, d2, d3, d4⟩ := row_cell (unhide HX).1
      have f0 : wb.frozen? ⟨gb, 0, none⟩ = false := frozen_of_row wb gb 0 _ _ (unhide HX).1
      have f1 : wb.frozen? ⟨gb, 1, none⟩ = false := frozen_of_row wb gb 1 _ _ (unhide HX).1
      have f2 : wb.frozen? ⟨gb, 2, none⟩ = false := frozen_of_row wb gb 2 _ _ (unhide HX).1
      have f3 : wb.frozen? ⟨gb, 3, none⟩ = false := frozen_of_row wb gb 3 _ _ (unhide HX).1
      have f4 : wb.frozen? ⟨gb, 4, none⟩ = false := frozen_of_row wb gb 4 _ _ (unhide HX).1
      go_simp
      refine hK.out _ _ (Or.inl rfl) ?_
      clear hK K d0 d1 d2 d3 d4 f0 f1 f2 f3 f4
      try simp only [Act.put, List.setIfInBounds_toArray, List.set_cons_zero, List.set_cons_succ]
      refine till_done (by kernel_rfl) ?_ _
      go_wp2_with fail
      go_meet
      obtain ⟨p1, p2⟩ := cln_start (unhide HX).2.2 (unhide HX).2.1 (unhide HX).1 k n s l ks
      exact ⟨gb, rfl, hide p1, hide p2⟩
    · go_simp
      obtain ⟨gb, hgb⟩ : ∃ gb, w2.heap.size = gb := ⟨_, rfl⟩
      obtain ⟨wa, hwa⟩ : ∃ wa, w2.alloc (.cells #[.int .i64 0, .int .i64 0, .string ⟨#[]⟩, .slice none 0 0, .slice none 0 0] 29) = wa := ⟨_, rfl⟩
      have HA : Hid (wa.heap[gb]? = some (.cells #[.int .i64 0, .int .i64 0, .string ⟨#[]⟩, .slice none 0 0, .slice none 0 0] 29 (0, 0)) ∧ g + 2 ≤ gb ∧ Cz w wa g #[.int .i64 k, .int .i64 n, .string s, .slice al ln cl, .slice ak m ck] #[.int .i64 0, .int .i64 0, .string ⟨#[]⟩, .slice none 0 0, .slice none 0 0] ∧ gb < wa.heap.size) := hide (by
        rw [← hwa, ← hgb]
        exact ⟨heap_alloc_new w2 _, (unhide HS0).size, (unhide HS0).later ((Below.refl _ _).alloc (Nat.le_refl _) _), by simp⟩)
      rw [hgb, hwa]
      refine hK.out _ _ (Or.inr (unhide HA).2.2.1) ?_
      clear hK K hwa hgb
      try simp only [Act.put, List.setIfInBounds_toArray, List.set_cons_zero, List.set_cons_succ]
      refine till_one 6 (by kernel_rfl) rfl (fun K hK => ?_)
      go_simp
      refine (str_clone s wa (unhide HBD).2.2.1).mono ?_
      rintro e wb ⟨rfl, bu⟩
      have HX : Hid (wb.heap[gb]? = some (.cells #[.int .i64 0, .int .i64 0, .string ⟨#[]⟩, .slice none 0 0, .slice none 0 0] 29 (0, 0)) ∧ g + 2 ≤ gb ∧ Cz w wb g #[.int .i64 k, .int .i64 n, .string s, .slice al ln cl, .slice ak m ck] #[.int .i64 0, .int .i64 0, .string ⟨#[]⟩, .slice none 0 0, .slice none 0 0]) := hide ⟨(bu.block gb (unhide HA).2.2.2).trans (unhide HA).1, (unhide HA).2.1, (unhide HA).2.2.1.later bu⟩
      clear bu
      go_wp2_with fail
      refine hK.out _ _ (Or.inr (unhide HX).2.2) ?_
      clear hK K
      try simp only [Act.put, List.setIfInBounds_toArray, List.set_cons_zero, List.set_cons_succ]
      refine till_take 7 (v := .agg #[.int .i64 k, .int .i64 n, .string s, .slice none 0 0, .slice none 0 0]) (some 15) rfl rfl rfl (by kernel_rfl) (by kernel_rfl) (by kernel_rfl) (by kernel_rfl) (fun _ _ _ h => h) (Or.inl ⟨by rfl, fun u hu => by go_simp⟩) (unhide HX).2.2 ?_
      try simp only [Act.put, List.setIfInBounds_toArray, List.set_cons_zero, List.set_cons_succ]
      refine till_one 9 (by kernel_rfl) rfl (fun K hK => ?_)
      obtain ⟨d0, d1, d2, d3, d4⟩ := row_cell (unhide HX).1
      have f0 : wb.frozen? ⟨gb, 0, none⟩ = false := frozen_of_row wb gb 0 _ _ (unhide HX).1
      have f1 : wb.frozen? ⟨gb, 1, none⟩ = false := frozen_of_row wb gb 1 _ _ (unhide HX).1
      have f2 : wb.frozen? ⟨gb, 2, none⟩ = false := frozen_of_row wb gb 2 _ _ (unhide HX).1
      have f3 : wb.frozen? ⟨gb, 3, none⟩ = false := frozen_of_row wb gb 3 _ _ (unhide HX).1
      have f4 : wb.frozen? ⟨gb, 4, none⟩ = false := frozen_of_row wb gb 4 _ _ (unhide HX).1
      go_simp
      refine hK.out _ _ (Or.inl rfl) ?_
      clear hK K d0 d1 d2 d3 d4 f0 f1 f2 f3 f4
      try simp only [Act.put, List.setIfInBounds_toArray, List.set_cons_zero, List.set_cons_succ]
      refine till_done (by kernel_rfl) ?_ _
      go_wp2_with fail
      go_meet
      obtain ⟨p1, p2⟩ := cln_start (unhide HX).2.2 (unhide HX).2.1 (unhide HX).1 k n s l ks
      exact ⟨gb, rfl, hide p1, hide p2⟩
  case rest =>
    obtain ⟨gb, rfl, HC1, HM1⟩ := hcut
    clear HS0
    obtain ⟨c0, c1, c2, c3, c4⟩ := row_cell (unhide HC1).at0
    obtain ⟨d0, d1, d2, d3, d4⟩ := row_cell (unhide HM1).box
    go_wp2_with fail
    refine (growS m wc hm16).mono ?_
    rintro e u2 ⟨sv, rfl, b2, hs2⟩
    obtain ⟨ao, cp, rfl⟩ : ∃ ao cp, sv = .slice ao 0 cp := by
      rcases hs2 with rfl | ⟨⟨cap, rfl⟩, _⟩
      · exact ⟨none, 0, rfl⟩
      · exact ⟨_, cap, rfl⟩
    have HM2 := hide ((unhide HM1).growK b2 hs2)
    have HC2 := hide (((unhide HC1).later b2).set (f := 4) (.slice ao 0 cp))
    have B2 := (unhide HC1).later b2
    have M2 := (unhide HM1).later b2
    clear c0 c1 c2 c3 c4 d0 d1 d2 d3 d4
    obtain ⟨d0, d1, d2, d3, d4⟩ := row_cell M2.box
    have f4 : u2.frozen? ⟨gb, 4, none⟩ = false := frozen_of_row u2 gb 4 _ _ M2.box
    clear B2 M2 b2 hs2 HM1 HC1
    go_upto_region 3 with fail
    obtain ⟨w3, hw3⟩ : ∃ w3, u2.setCell ⟨gb, 4, none⟩ (.slice ao 0 cp) = w3 := ⟨_, rfl⟩
    rw [hw3] at HM2 HC2 ⊢
    clear hw3 d0 d1 d2 d3 d4 f4
    obtain ⟨c0, c1, c2, c3, c4⟩ := row_cell (unhide HC2).at0
    go_wp2_with fail
    go_loopw [26] (fun x wr => ∃ (j : Nat) (Kv : Value), j ≤ m ∧ x = .int .i64 j ∧ Hid (Cp w wr g gb #[.int .i64 k, .int .i64 n, .string s, .slice al ln cl, .slice ak m ck] #[.int .i64 0, .int .i64 0, .string ⟨#[]⟩, .slice none 0 0, .slice none 0 0]) ∧ Hid (Mid wr (gb + 1) gb k n s l ks (.slice none 0 0) Kv 0 j (fun _ => []))) (fun x _ => m - (intOf x).toNat)
    case atStart => exact ⟨0, _, Nat.zero_le _, rfl, HC2, HM2⟩
    case round =>
      clear HC2 HM2 c0 c1 c2 c3 c4
      obtain ⟨j, Kv, hj, rfl, HCr, HMr⟩ := hrel
      by_cases hlt : j < m
      · have j1 : (j : Int) < (m : Int) := by omega
        have j0 : (0 : Int) ≤ (j : Int) := by omega
        obtain ⟨a2, rfl⟩ : ∃ a2, ak = some a2 := by
          cases ak with
          | none => have h1 := hak rfl; omega
          | some a2 => exact ⟨a2, rfl⟩
        obtain ⟨t, ht⟩ : ∃ t, ks[j]? = some t := ⟨_, List.getElem?_eq_getElem (by have := (unhide HL).1; omega)⟩
        have e0 : wr.cell? (a2.add j) = some (.string t) := (unhide HV wr (unhide HCr).below).keys.1.cell a2 rfl j t ht
        have hts : t.size ≤ 140737488351232 := (unhide HBD).2.2.2.2 t (List.mem_of_getElem? ht)
        have CR := hide (str_clone t wr.drew hts)
        have HT := hide ht
        have HKb := hide (unhide HMr).ownK.lt
        obtain ⟨iv, hiv, hz0, hz1, hz2⟩ := info_parts infoSc
        have HI := hide (And.intro hiv (And.intro hz0 (And.intro hz1 hz2)))
        have HS0 : Hid (wr.drew.cell? ⟨gb, 4, none⟩ = some Kv) := hide (row_cell (unhide HMr).box).2.2.2.2
        clear hiv hz0 hz1 hz2 ht hts
        go_upto_region 6 with fail
        clear e0
        refine till_begin (S := fun w' => w'.cell? ⟨gb, 4, none⟩ = some Kv) 7 (by kernel_rfl) ?_
        refine till_take 0 (v := .pointer (some ⟨gb, 4, none⟩)) (some 30) rfl rfl rfl (by kernel_rfl) (by kernel_rfl) (by kernel_rfl) (by kernel_rfl) (fun _ _ _ h => h) (Or.inl ⟨by rfl, fun u hu => by have h4 : u.cell? ⟨gb, 4, none⟩ = some Kv := hu; go_simp⟩) (unhide HS0) ?_
        try simp only [Act.put, List.setIfInBounds_toArray, List.set_cons_zero, List.set_cons_succ]
        refine till_take 1 (v := Kv) (some 31) rfl rfl rfl (by kernel_rfl) (by kernel_rfl) (by kernel_rfl) (by kernel_rfl) (fun _ _ _ h => h) (Or.inl ⟨by rfl, fun u hu => by have h4 : u.cell? ⟨gb, 4, none⟩ = some Kv := hu; go_simp⟩) (unhide HS0) ?_
        try simp only [Act.put, List.setIfInBounds_toArray, List.set_cons_zero, List.set_cons_succ]
        refine till_take 2 (v := .string t) (some 32) rfl rfl rfl (by kernel_rfl) (by kernel_rfl) (by kernel_rfl) (by kernel_rfl) (fun _ _ _ h => h) (Or.inl ⟨by rfl, fun u hu => by have h4 : u.cell? ⟨gb, 4, none⟩ = some Kv := hu; go_simp⟩) (unhide HS0) ?_
        try simp only [Act.put, List.setIfInBounds_toArray, List.set_cons_zero, List.set_cons_succ]
        refine till_one 3 (by kernel_rfl) rfl (fun K hK => ?_)
        go_simp
        refine (unhide CR).mono ?_
        rintro e w5 ⟨rfl, b5⟩
        have b6 := below_drew_of' b5
        have HS5 : Hid (w5.cell? ⟨gb, 4, none⟩ = some Kv) := hide (cell_later b6 (unhide HS0))
        have H5 := hide b6
        clear b5 b6 CR
        go_wp2_with fail
        refine hK.out _ _ (Or.inr (unhide HS5)) ?_
        clear hK K
        try simp only [Act.put, List.setIfInBounds_toArray, List.set_cons_zero, List.set_cons_succ]
        refine till_one 4 (by kernel_rfl) rfl (fun K hK => ?_)
        go_simp
        obtain ⟨w6, hw6⟩ : ∃ w6, w5.alloc (.cells #[.string t] 9) = w6 := ⟨_, rfl⟩
        have X6 : Below w5.heap.size w5 w6 := by rw [← hw6]; exact (Below.refl _ _).alloc (Nat.le_refl _) _
        have at6 : w6.heap[w5.heap.size]? = some (.cells #[.string t] 9 (0, 0)) := by rw [← hw6]; exact heap_alloc_new w5 _
        have sz6 : w6.heap.size = w5.heap.size + 1 := by rw [← hw6]; simp
        rw [hw6]
        have HS6 : Hid (w6.cell? ⟨gb, 4, none⟩ = some Kv) := hide (cell_later X6 (unhide HS5))
        have HM6 := hide (((unhide HMr).later (unhide H5)).later X6)
        have H6 := hide (And.intro X6 (And.intro at6 sz6))
        obtain ⟨h5s, hh5s⟩ : ∃ h5s, w5.heap.size = h5s := ⟨_, rfl⟩
        rw [hh5s] at at6 sz6 ⊢
        have HH5 := hide hh5s
        refine hK.out _ _ (Or.inr (unhide HS6)) ?_
        clear hK K hw6 X6 hh5s
        try simp only [Act.put, List.setIfInBounds_toArray, List.set_cons_zero, List.set_cons_succ]
        refine till_one 5 (by kernel_rfl) rfl (fun K hK => ?_)
        refine step_append_lies _ (by rfl) _ _ 27 (by rfl) (gb + 1) 9 iv (.string ⟨#[]⟩) 1 16 Tryz.underlying27 (unhide HI).1 (unhide HI).2.1 (unhide HI).2.2.1 (unhide HI).2.2.2 rfl (by omega) Kv j ((ks.take j).map Value.string) (by rfl) (unhide HM6).ownK ⟨h5s, 0, none⟩ 1 1 [.string t] (by rfl) (by rfl) (World.news_of_block at6) (by simp [Value.oneCell']) (by omega) (by unfold maxLen; omega) (by omega) (unhide HM6).size _ rfl ?_
        intro g7 cap7 w7 hown7 hgrow7 hat7 hlt7
        change K (Act.put _ (some 35) _) w7
        have hKb := unhide HKb
        have fr : some gb ≠ Kv.ownBlock := fun e => by have := (hKb gb e.symm).1; omega
        have gbl : gb < w6.heap.size := Nat.lt_of_lt_of_le (Nat.lt_succ_self _) (unhide HM6).size
        have HS7 : Hid (w7.cell? ⟨gb, 4, none⟩ = some Kv) := hide ((hgrow7.cell_far ⟨gb, 4, none⟩ gbl fr).trans (unhide HS6))
        have f7 : w7.frozen? ⟨gb, 4, none⟩ = false := (hgrow7.frozen_far ⟨gb, 4, none⟩ gbl fr).trans (frozen_of_row w6 gb 4 _ _ (unhide HM6).box)
        have H7 := hide (And.intro hown7 (And.intro hgrow7 hat7))
        refine hK.out _ _ (Or.inr (unhide HS7)) ?_
        clear hK K hown7 hgrow7 hat7 hlt7 hKb fr gbl
        try simp only [Act.put, List.setIfInBounds_toArray, List.set_cons_zero, List.set_cons_succ]
        refine till_take 6 (v := .pointer (some ⟨gb, 4, none⟩)) (some 36) rfl rfl rfl (by kernel_rfl) (by kernel_rfl) (by kernel_rfl) (by kernel_rfl) (fun _ _ _ h => h) (Or.inl ⟨by rfl, fun u hu => by have h4 : u.cell? ⟨gb, 4, none⟩ = some Kv := hu; go_simp⟩) (unhide HS7) ?_
        try simp only [Act.put, List.setIfInBounds_toArray, List.set_cons_zero, List.set_cons_succ]
        refine till_one 7 (by kernel_rfl) rfl (fun K hK => ?_)
        have c7 := unhide HS7
        go_simp
        refine hK.out _ _ (Or.inl rfl) ?_
        clear hK K
        try simp only [Act.put, List.setIfInBounds_toArray, List.set_cons_zero, List.set_cons_succ]
        refine till_done (by kernel_rfl) ?_ _
        obtain ⟨w8, hw8⟩ : ∃ w8, w7.setCell ⟨gb, 4, none⟩ (.slice (some ⟨g7, 0, none⟩) (j + 1) cap7) = w8 := ⟨_, rfl⟩
        have HC8 : Hid (Cp w w8 g gb #[.int .i64 k, .int .i64 n, .string s, .slice al ln cl, .slice (some a2) m ck] #[.int .i64 0, .int .i64 0, .string ⟨#[]⟩, .slice none 0 0, .slice none 0 0]) := hide (by
          rw [← hw8]
          exact (((unhide HCr).later (unhide H5)).later (unhide H6).1).push (unhide H7).2.1 (fun q e => (unhide HKb q e).1))
        have HM8 : Hid (Mid w8 (gb + 1) gb k n s l ks (.slice none 0 0) (.slice (some ⟨g7, 0, none⟩) (j + 1) cap7) 0 (j + 1) (fun _ => [])) := hide (by
          rw [← hw8]
          obtain ⟨X6, at6, sz6⟩ := unhide H6
          obtain ⟨hown7, hgrow7, hat7⟩ := unhide H7
          refine ((unhide HMr).later (unhide H5)).pushK (fun q hq hne => ?_) (by have := X6.size; have := hgrow7.size; omega) ?_ ?_
          · rw [hgrow7.block q (by have := X6.size; omega) hne, X6.block q hq]
          · rw [List.take_add_one, unhide HT, List.map_append]
            exact hown7
          · rcases hat7 with e | e
            · exact Or.inl e
            · exact Or.inr (by omega))
        rw [hw8]
        have HI1 : Hid (j + 1 ≤ m) := hide (by omega)
        clear hw8 f7 c7
        go_wp2_with fail
        go_roundw
        case rel => exact ⟨j + 1, _, unhide HI1, by go_num, HC8, HM8⟩
        case measure => have := unhide HI1; simp [intOf]; omega
      · have j1 : ¬ (j : Int) < (m : Int) := by omega
        have hjj : j = m := by omega
        have HM1 : Hid (Mid wr (gb + 1) gb k n s l ks (.slice none 0 0) Kv 0 m (fun _ => [])) := by rw [← hjj]; exact HMr
        clear hjj HMr hj hlt
        obtain ⟨c0, c1, c2, c3, c4⟩ := row_cell (unhide HCr).at0
        obtain ⟨d0, d1, d2, d3, d4⟩ := row_cell (unhide HM1).box
        go_wp2_with fail
        refine (growV ln wr hlb).mono ?_
        rintro e u3 ⟨sv, rfl, b3, hs3⟩
        obtain ⟨ao3, cp3, rfl⟩ : ∃ ao cp, sv = .slice ao 0 cp := by
          rcases hs3 with rfl | ⟨⟨cap, rfl⟩, _⟩
          · exact ⟨none, 0, rfl⟩
          · exact ⟨_, cap, rfl⟩
        have HM3 := hide ((unhide HM1).growL b3 hs3)
        have HC3 := hide (((unhide HCr).later b3).set (f := 3) (.slice ao3 0 cp3))
        have M3 := (unhide HM1).later b3
        clear c0 c1 c2 c3 c4 d0 d1 d2 d3 d4
        obtain ⟨d0, d1, d2, d3, d4⟩ := row_cell M3.box
        have f3 : u3.frozen? ⟨gb, 3, none⟩ = false := frozen_of_row u3 gb 3 _ _ M3.box
        clear M3 b3 hs3 HM1 HCr
        go_upto_region 9 with fail
        obtain ⟨w4, hw4⟩ : ∃ w4, u3.setCell ⟨gb, 3, none⟩ (.slice ao3 0 cp3) = w4 := ⟨_, rfl⟩
        rw [hw4] at HM3 HC3 ⊢
        clear hw4 d0 d1 d2 d3 d4 f3
        obtain ⟨c0, c1, c2, c3, c4⟩ := row_cell (unhide HC3).at0
        go_wp2_with fail
        go_loopw [48] (fun x wr => ∃ (i : Nat) (Lv : Value) (V : Nat → List Value), i ≤ ln ∧ x = .int .i64 i ∧ Hid (Cp w wr g gb #[.int .i64 k, .int .i64 n, .string s, .slice al ln cl, .slice ak m ck] #[.int .i64 0, .int .i64 0, .string ⟨#[]⟩, .slice none 0 0, .slice none 0 0]) ∧ Hid (Mid wr (gb + 1) gb k n s l ks Lv Kv i m V)) (fun x _ => ln - (intOf x).toNat)
        case atStart => exact ⟨0, _, _, Nat.zero_le _, rfl, HC3, HM3⟩
        case round =>
          clear HC3 HM3 c0 c1 c2 c3 c4
          obtain ⟨i, Lv, V, hi, rfl, HCr, HMr⟩ := hrel
          by_cases hlt : i < ln
          · have i1 : (i : Int) < (ln : Int) := by omega
            have i0 : (0 : Int) ≤ (i : Int) := by omega
            obtain ⟨y, hy⟩ : ∃ y, l[i]? = some y := ⟨_, List.getElem?_eq_getElem (by have := (unhide HL).2; omega)⟩
            obtain ⟨a, y0, y1, y2, al', ak', ll', m', cl', ck', rfl, hab, hce, hve⟩ := (unhide HV wr (unhide HCr).below).elem i y hy
            have e0 : wr.cell? (a.add (i * 5)) = some (.int .i64 y0) := hce 0 _ rfl
            have e1 : wr.cell? ⟨(a.add (i * 5)).block, (a.add (i * 5)).off + 1, none⟩ = some (.int .i64 y1) := hce 1 _ rfl
            have e2 : wr.cell? ⟨(a.add (i * 5)).block, (a.add (i * 5)).off + 2, none⟩ = some (.string y2) := hce 2 _ rfl
            have e3 : wr.cell? ⟨(a.add (i * 5)).block, (a.add (i * 5)).off + 3, none⟩ = some (.slice al' ll' cl') := hce 3 _ rfl
            have e4 : wr.cell? ⟨(a.add (i * 5)).block, (a.add (i * 5)).off + 4, none⟩ = some (.slice ak' m' ck') := hce 4 _ rfl
            have HVE := hide hve
            have HY := hide hy
            have HLb : Hid (∀ q, Lv.ownBlock = some q → gb + 1 ≤ q ∧ q < wr.heap.size) := hide (unhide HMr).ownL.lt
            obtain ⟨iv, hiv, hz0, hz1, hz2⟩ := info_parts infoVc
            have HI := hide (And.intro hiv (And.intro hz0 (And.intro hz1 hz2)))
            clear hy hce hve hiv hz0 hz1 hz2
            go_upto_region 12 with fail
            obtain ⟨gx, hgx⟩ : ∃ gx, wr.heap.size = gx := ⟨_, rfl⟩
            obtain ⟨wx, hwx⟩ : ∃ wx, wr.alloc (.cells #[.int .i64 y0, .int .i64 y1, .string y2, .slice al' ll' cl', .slice ak' m' ck'] 29) = wx := ⟨_, rfl⟩
            have HX : Hid (wx.heap[gx]? = some (.cells #[.int .i64 y0, .int .i64 y1, .string y2, .slice al' ll' cl', .slice ak' m' ck'] 29 (0, 0)) ∧ Below wr.heap.size wr wx ∧ wx.heap.size = gx + 1 ∧ wr.heap.size = gx) := hide (by
              rw [← hwx, ← hgx]
              exact ⟨heap_alloc_new wr _, (Below.refl _ _).alloc (Nat.le_refl _) _, by simp, rfl⟩)
            simp only [hgx]
            rw [hwx]
            clear hgx hwx e0 e1 e2 e3 e4
            have hBx : B ≤ wx.heap.size := by have := (unhide HX).2.2; have := (unhide HCr).size; have := (unhide HCr).low; omega
            have CR := hide (ih y _ B wx.drew (unhide HD i y (unhide HY)) (by have h1 := cntL_next l i y (unhide HY); have h2 := cntL_take_le l (i + 1); have h3 := unhide HCN; omega) ((unhide HVE).mono (((unhide HX).2.1.drew).mono (by have := (unhide HCr).size; have := (unhide HCr).low; omega))) hBx)
            have HMx := hide ((unhide HMr).later (unhide HX).2.1)
            have HS0 : Hid (wx.drew.cell? ⟨gb, 3, none⟩ = some Lv ∧ wx.drew.heap[gx]? = some (.cells #[.int .i64 y0, .int .i64 y1, .string y2, .slice al' ll' cl', .slice ak' m' ck'] 29 (0, 0))) := hide ⟨(row_cell (unhide HMx).box).2.2.2.1, (unhide HX).1⟩
            clear hBx
            refine till_begin (S := fun w' => w'.cell? ⟨gb, 3, none⟩ = some Lv ∧ w'.heap[gx]? = some (.cells #[.int .i64 y0, .int .i64 y1, .string y2, .slice al' ll' cl', .slice ak' m' ck'] 29 (0, 0))) 7 (by kernel_rfl) ?_
            refine till_take 0 (v := .pointer (some ⟨gb, 3, none⟩)) (some 52) rfl rfl rfl (by kernel_rfl) (by kernel_rfl) (by kernel_rfl) (by kernel_rfl) (fun _ _ _ h => h) (Or.inl ⟨by rfl, fun u hu => by obtain ⟨h4, hgx⟩ := hu; obtain ⟨c0, c1, c2, c3, c4⟩ := row_cell hgx; go_simp⟩) (unhide HS0) ?_
            try simp only [Act.put, List.setIfInBounds_toArray, List.set_cons_zero, List.set_cons_succ]
            refine till_take 1 (v := Lv) (some 53) rfl rfl rfl (by kernel_rfl) (by kernel_rfl) (by kernel_rfl) (by kernel_rfl) (fun _ _ _ h => h) (Or.inl ⟨by rfl, fun u hu => by obtain ⟨h4, hgx⟩ := hu; obtain ⟨c0, c1, c2, c3, c4⟩ := row_cell hgx; go_simp⟩) (unhide HS0) ?_
            try simp only [Act.put, List.setIfInBounds_toArray, List.set_cons_zero, List.set_cons_succ]
            refine till_take 2 (v := .agg #[.int .i64 y0, .int .i64 y1, .string y2, .slice al' ll' cl', .slice ak' m' ck']) (some 54) rfl rfl rfl (by kernel_rfl) (by kernel_rfl) (by kernel_rfl) (by kernel_rfl) (fun _ _ _ h => h) (Or.inl ⟨by rfl, fun u hu => by obtain ⟨h4, hgx⟩ := hu; obtain ⟨c0, c1, c2, c3, c4⟩ := row_cell hgx; go_simp⟩) (unhide HS0) ?_
            try simp only [Act.put, List.setIfInBounds_toArray, List.set_cons_zero, List.set_cons_succ]
            refine till_one 3 (by kernel_rfl) rfl (fun K hK => ?_)
            go_simp
            refine (unhide CR).mono ?_
            rintro e w5 ⟨x5, rfl, h5, b5⟩
            obtain ⟨k5, n5, s5, l5, ks5, al5, ak5, cl5, ck5, hy5, rfl⟩ := h5.shape
            obtain ⟨lc5, hlc5⟩ : ∃ lc5, l5.length = lc5 := ⟨_, rfl⟩
            obtain ⟨mc5, hmc5⟩ : ∃ mc5, ks5.length = mc5 := ⟨_, rfl⟩
            rw [hlc5, hmc5] at h5 ⊢
            have b6 := below_drew_of' b5
            have HS5 : Hid (w5.cell? ⟨gb, 3, none⟩ = some Lv ∧ w5.heap[gx]? = some (.cells #[.int .i64 y0, .int .i64 y1, .string y2, .slice al' ll' cl', .slice ak' m' ck'] 29 (0, 0))) := hide ⟨cell_later b6 (unhide HS0).1, (b6.block gx (by have := (unhide HX).2.2; omega)).trans (unhide HS0).2⟩
            have H5 := hide (And.intro h5 b6)
            clear b5 b6 h5 hy5 hlc5 hmc5 CR
            go_wp2_with fail
            refine hK.out _ _ (Or.inr (unhide HS5)) ?_
            clear hK K
            try simp only [Act.put, List.setIfInBounds_toArray, List.set_cons_zero, List.set_cons_succ]
            refine till_one 4 (by kernel_rfl) rfl (fun K hK => ?_)
            go_simp
            obtain ⟨w6, hw6⟩ : ∃ w6, w5.alloc (.cells #[.int .i64 k5, .int .i64 n5, .string s5, .slice al5 lc5 cl5, .slice ak5 mc5 ck5] 29) = w6 := ⟨_, rfl⟩
            have X6 : Below w5.heap.size w5 w6 := by rw [← hw6]; exact (Below.refl _ _).alloc (Nat.le_refl _) _
            have at6 : w6.heap[w5.heap.size]? = some (.cells #[.int .i64 k5, .int .i64 n5, .string s5, .slice al5 lc5 cl5, .slice ak5 mc5 ck5] 29 (0, 0)) := by rw [← hw6]; exact heap_alloc_new w5 _
            have sz6 : w6.heap.size = w5.heap.size + 1 := by rw [← hw6]; simp
            rw [hw6]
            have HS6 : Hid (w6.cell? ⟨gb, 3, none⟩ = some Lv ∧ w6.heap[gx]? = some (.cells #[.int .i64 y0, .int .i64 y1, .string y2, .slice al' ll' cl', .slice ak' m' ck'] 29 (0, 0))) := hide ⟨cell_later X6 (unhide HS5).1, (X6.block gx (by have := (unhide HX).2.2; have := (unhide H5).2.size; omega)).trans (unhide HS5).2⟩
            have HM6 := hide (((unhide HMx).later (unhide H5).2).later X6)
            have H6 := hide (And.intro X6 (And.intro at6 sz6))
            obtain ⟨h5s, hh5s⟩ : ∃ h5s, w5.heap.size = h5s := ⟨_, rfl⟩
            rw [hh5s] at at6 sz6 ⊢
            have HH5 := hide hh5s
            refine hK.out _ _ (Or.inr (unhide HS6)) ?_
            clear hK K hw6 X6 hh5s
            try simp only [Act.put, List.setIfInBounds_toArray, List.set_cons_zero, List.set_cons_succ]
            refine till_one 5 (by kernel_rfl) rfl (fun K hK => ?_)
            refine step_append_lies _ (by rfl) _ _ 26 (by rfl) (gb + 1) 29 iv (.agg #[.int .i64 0, .int .i64 0, .string ⟨#[]⟩, .slice none 0 0, .slice none 0 0]) 5 80 Tryz.underlying26 (unhide HI).1 (unhide HI).2.1 (unhide HI).2.2.1 (unhide HI).2.2.2 rfl (by omega) Lv i (flat V i) (by rfl) (unhide HM6).ownL ⟨h5s, 0, none⟩ 1 1 [.int .i64 k5, .int .i64 n5, .string s5, .slice al5 lc5 cl5, .slice ak5 mc5 ck5] (by rfl) (by rfl) (World.news_of_block at6) (by simp [Value.oneCell']) (by omega) (by unfold maxLen; omega) (by omega) (unhide HM6).size _ rfl ?_
            intro g7 cap7 w7 hown7 hgrow7 hat7 hlt7
            change K (Act.put _ (some 57) _) w7
            have hLb := unhide HLb
            have fr : some gb ≠ Lv.ownBlock := fun e => by have := (hLb gb e.symm).1; omega
            have frx : some gx ≠ Lv.ownBlock := fun e => by have := (hLb gx e.symm).2; have := (unhide HX).2.2; omega
            have gbl : gb < w6.heap.size := Nat.lt_of_lt_of_le (Nat.lt_succ_self _) (unhide HM6).size
            have gxl : gx < w6.heap.size := by have := (unhide HX).2.2; have := (unhide H5).2.size; have := (unhide H6).1.size; omega
            have HS7 : Hid (w7.cell? ⟨gb, 3, none⟩ = some Lv ∧ w7.heap[gx]? = some (.cells #[.int .i64 y0, .int .i64 y1, .string y2, .slice al' ll' cl', .slice ak' m' ck'] 29 (0, 0))) := hide ⟨(hgrow7.cell_far ⟨gb, 3, none⟩ gbl fr).trans (unhide HS6).1, (hgrow7.block gx gxl frx).trans (unhide HS6).2⟩
            have f7 : w7.frozen? ⟨gb, 3, none⟩ = false := (hgrow7.frozen_far ⟨gb, 3, none⟩ gbl fr).trans (frozen_of_row w6 gb 3 _ _ (unhide HM6).box)
            have H7 := hide (And.intro hown7 (And.intro hgrow7 hat7))
            refine hK.out _ _ (Or.inr (unhide HS7)) ?_
            clear hK K hown7 hgrow7 hat7 hlt7 hLb fr frx gbl gxl
            try simp only [Act.put, List.setIfInBounds_toArray, List.set_cons_zero, List.set_cons_succ]
            refine till_take 6 (v := .pointer (some ⟨gb, 3, none⟩)) (some 58) rfl rfl rfl (by kernel_rfl) (by kernel_rfl) (by kernel_rfl) (by kernel_rfl) (fun _ _ _ h => h) (Or.inl ⟨by rfl, fun u hu => by obtain ⟨h4, hgx⟩ := hu; obtain ⟨c0, c1, c2, c3, c4⟩ := row_cell hgx; go_simp⟩) (unhide HS7) ?_
            try simp only [Act.put, List.setIfInBounds_toArray, List.set_cons_zero, List.set_cons_succ]
            refine till_one 7 (by kernel_rfl) rfl (fun K hK => ?_)
            have c7 := (unhide HS7).1
            go_simp
            refine hK.out _ _ (Or.inl rfl) ?_
            clear hK K
            try simp only [Act.put, List.setIfInBounds_toArray, List.set_cons_zero, List.set_cons_succ]
            refine till_done (by kernel_rfl) ?_ _
            obtain ⟨w8, hw8⟩ : ∃ w8, w7.setCell ⟨gb, 3, none⟩ (.slice (some ⟨g7, 0, none⟩) (i + 1) cap7) = w8 := ⟨_, rfl⟩
            have HC8 : Hid (Cp w w8 g gb #[.int .i64 k, .int .i64 n, .string s, .slice (some a) ln cl, .slice ak m ck] #[.int .i64 0, .int .i64 0, .string ⟨#[]⟩, .slice none 0 0, .slice none 0 0]) := hide (by
              rw [← hw8]
              exact ((((unhide HCr).later (unhide HX).2.1).later (unhide H5).2).later (unhide H6).1).push (unhide H7).2.1 (fun q e => (unhide HLb q e).1))
            have HM8 : Hid (Mid w8 (gb + 1) gb k n s l ks (.slice (some ⟨g7, 0, none⟩) (i + 1) cap7) Kv (i + 1) m (setV V i [.int .i64 k5, .int .i64 n5, .string s5, .slice al5 lc5 cl5, .slice ak5 mc5 ck5])) := hide (by
              rw [← hw8]
              obtain ⟨h5, b5⟩ := unhide H5
              obtain ⟨X6, at6, sz6⟩ := unhide H6
              obtain ⟨hown7, hgrow7, hat7⟩ := unhide H7
              have M5 := (unhide HMx).later b5
              refine M5.pushL (lo := wx.heap.size) (unhide HMx).size (fun q e => by have := (unhide HLb q e).2; have := (unhide HX).2.2; omega) (fun q e => ((unhide HMx).ownK.lt q e).2) (unhide HY) h5 rfl (fun q hq hne => ?_) (by have := X6.size; have := hgrow7.size; omega) hown7 ?_
              · rw [hgrow7.block q (by have := X6.size; omega) hne, X6.block q hq]
              · rcases hat7 with e | e
                · exact Or.inl e
                · exact Or.inr (by omega))
            rw [hw8]
            have HI1 : Hid (i + 1 ≤ ln) := hide (by omega)
            clear hw8 f7 c7
            go_wp2_with fail
            go_roundw
            case rel => exact ⟨i + 1, _, _, unhide HI1, by go_num, HC8, HM8⟩
            case measure => have := unhide HI1; simp [intOf]; omega
          · have i1 : ¬ (i : Int) < (ln : Int) := by omega
            have hii : i = ln := by omega
            have hlow := (unhide HCr).low
            obtain ⟨z0, z1, z2, z3, z4⟩ := row_cell (unhide HCr).at1
            obtain ⟨d0, d1, d2, d3, d4⟩ := row_cell (unhide HMr).box
            have fz : ∀ q, wr.frozen? ⟨g + 1, q, none⟩ = false := fun q => frozen_of_row wr (g + 1) q _ _ (unhide HCr).at1
            obtain ⟨aL, cL, eL, _⟩ := slice_form (unhide HMr).ownL
            obtain ⟨aK, cK, eK, _⟩ := slice_form (unhide HMr).ownK
            subst eL
            subst eK
            have HF : Hid (∀ u : World, u.heap.size = wr.heap.size → (∀ q, q ≠ g + 1 → u.heap[q]? = wr.heap[q]?) → IsQ u (fun q => g ≤ q ∧ q < u.heap.size) (.mk k n s l ks) (.agg #[.int .i64 k, .int .i64 n, .string s, .slice aL i cL, .slice aK m cK])) := hide (fun u hu hq => by
              obtain ⟨bk, bn, bs, bq, bt⟩ := unhide HBD
              have hp := (unhide HMr).made (by rw [(unhide HL).2]; exact hii) (unhide HL).1.symm bk bn bs bq bt (by rw [(unhide HL).2]; omega)
              exact (hp.move (fun q hP => hq q (by omega))).weak (fun q hP => ⟨by omega, by omega⟩))
            have fz0 := fz 0
            have fz1 := fz 1
            have fz2 := fz 2
            have fz3 := fz 3
            have fz4 := fz 4
            clear fz
            go_wp2_with fail
            subst hii
            have R9 := five_set wr (g + 1) 29 _ _ _ _ _ (.int .i64 k) (.int .i64 n) (.string s) (.slice aL i cL) (.slice aK m cK) (unhide HCr).at1
            have O9 := five_other wr (g + 1) (x0 := .int .i64 k) (x1 := .int .i64 n) (x2 := .string s) (x3 := .slice aL i cL) (x4 := .slice aK m cK)
            have S9 : (((((wr.setCell ⟨g + 1, 0, none⟩ (.int .i64 k)).setCell ⟨g + 1, 1, none⟩ (.int .i64 n)).setCell ⟨g + 1, 2, none⟩ (.string s)).setCell ⟨g + 1, 3, none⟩ (.slice aL (i : Nat) cL)).setCell ⟨g + 1, 4, none⟩ (.slice aK m cK)).heap.size = wr.heap.size := by simp
            have B9 := five_below (g := g + 1) (unhide HCr).below (by omega) (.int .i64 k) (.int .i64 n) (.string s) (.slice aL i cL) (.slice aK m cK)
            obtain ⟨w9, hw9⟩ : ∃ w9, (((((wr.setCell ⟨g + 1, 0, none⟩ (.int .i64 k)).setCell ⟨g + 1, 1, none⟩ (.int .i64 n)).setCell ⟨g + 1, 2, none⟩ (.string s)).setCell ⟨g + 1, 3, none⟩ (.slice aL (i : Nat) cL)).setCell ⟨g + 1, 4, none⟩ (.slice aK m cK)) = w9 := ⟨_, rfl⟩
            rw [hw9] at R9 S9 B9 ⊢
            have I9 := unhide HF w9 S9 (fun q hq => by rw [← hw9]; exact O9 q hq)
            obtain ⟨r0, r1, r2, r3, r4⟩ := row_cell R9
            refine bodyPost_ret (v := .agg #[.int .i64 k, .int .i64 n, .string s, .slice aL i cL, .slice aK m cK]) (by simp [results, Tryz.results45, go_sem, r0, r1, r2, r3, r4]) rfl ?_
            first | exact ⟨_, rfl, I9, B9⟩ | (rw [← hg] at I9 B9; exact ⟨_, rfl, I9, B9⟩)
theorem cln_any : ∀ b, ClnAt b
  | 0 => cln_zero
  | b + 1 => cln_step b (cln_any b)
end Go.Proofs.YtmnbfcpkaglniaaGreatDoor
