/-
  The walk of readConst of a module's reader (layer 9); no conditions but the form's own reach.
-/
import Derived.Test.YtfdnhpmldnmncaaR33
import Derived.Test.YtfdnhpmldnmncaaR12
import Derived.Test.YtfdnhpmldnmncaaR23
namespace Go.Proofs.Ytfdnhpmldnmncaa
open Go.RowKit

theorem take_codeM {zs : List Int} {p : Int} {e : Int × Int} (h : takeR zs p = .error e) : e.1 = 41 ∨ e.1 = 42 := by
  unfold takeR at h
  split at h
  · cases h; exact Or.inl rfl
  · cases hv : rdV zs 8 p.toNat 0 with
    | error q => rw [hv] at h; cases h; exact code_pos 8 _ _ _ hv
    | ok q => rw [hv] at h; cases h

/-- what wire's Take leaves: a value of five cells, and of it what Y says -/
def TkR (Y : World → Nat → Value → Prop) (nx c : Int) (u : World) (e : Ending) (w' : World) : Prop := ∃ (x0 x1 : Int) (x2 : ByteArray) (al ak : Option Addr) (ll cl mm ck : Nat), e = .returned (.tuple #[.agg #[.int .i64 x0, .int .i64 x1, .string x2, .slice al ll cl, .slice ak mm ck], .int .i64 nx, .int .i64 c]) ∧ Y w' u.heap.size (.agg #[.int .i64 x0, .int .i64 x1, .string x2, .slice al ll cl, .slice ak mm ck]) ∧ Below u.heap.size u w'

/-- what is said of a value, kept by what leaves all blocks from B on but one -/
def KeepY (Y : World → Nat → Value → Prop) : Prop := ∀ w w' B B' g x, Y w B x → B' ≤ B → (g < B ∨ w.heap.size ≤ g) → w.heap.size ≤ w'.heap.size → (∀ b, b < w.heap.size → b ≠ g → w'.heap[b]? = w.heap[b]?) → Y w' B' x

/-- behind the region: a box with the value -/
structure RcS (Y : World → Nat → Value → Prop) (w wx : World) (gb : Nat) (x0 x1 x2 x3 x4 : Value) : Prop where
  row : wx.heap[gb]? = some (.cells #[x0, x1, x2, x3, x4] 51 (0, 0))
  low : w.heap.size ≤ gb
  below : Below w.heap.size w wx
  said : Y wx w.heap.size (.agg #[x0, x1, x2, x3, x4])

section
variable {P : Program} {ops : Array Oper} {Q : Exit → Act → World → Prop} {md : Region.Mode} {S : World → Prop} {z : Nat}
/-- number z, or another one -/
theorem tilt_two {f : Nat} {listed : Array Bool} {a : Act} {w : World} (i : Nat) {oi oz : Oper} (hiz : i ≠ z) (hr : Region.ready md ops listed = [i, z]) (hi : ops[i]? = some oi) (hz : ops[z]? = some oz)
    (h1 : ∀ K' : Act → World → Prop, Shut (∀ a w, S w → Tilt P md ops Q S z f (listed.setIfInBounds i true) a w → K' a w) → if Region.wanted oi (yielded ops a.tmps) = true then Oper.wp P oi a w K' Q else K' (a.put oi.dst undef) w)
    (h2 : ∀ K' : Act → World → Prop, Shut (∀ a w, wpAny P md ops Q f (listed.setIfInBounds z true) a w → K' a w) → if Region.wanted oz (yielded ops a.tmps) = true then Oper.wp P oz a w K' Q else K' (a.put oz.dst undef) w) :
    Tilt P md ops Q S z (f + 1) listed a w := by
  refine ⟨fun e => (by rw [e] at hr; cases hr), fun j hj => ?_⟩
  rw [hr, List.mem_cons, List.mem_singleton] at hj
  rcases hj with e | e
  · rw [e]
    exact wpOp_step hi (fun K' hK => h1 K' (fun a w hS hT => hK a w (Or.inr ⟨hiz, hS, hT⟩)))
  · rw [e]
    exact wpOp_step hz (fun K' hK => h2 K' (fun a w hT => hK a w (Or.inl ⟨rfl, hT⟩)))
end

theorem own_setN {w : World} {base : Nat} {e : TypeId} {size b n cap j : Nat} {xs : List Value} (h : w.ownsRow base e size (.slice (some ⟨b, 0, none⟩) n cap) n xs) (v : Value) : (w.setCell ⟨b, j, none⟩ v).ownsRow base e size (.slice (some ⟨b, 0, none⟩) n cap) n (xs.set j v) := by
  rcases h.2 with ⟨e1, _⟩ | ⟨g, cap', cur, e1, hbs, hg, h1, h2, h3, h4⟩
  · cases e1
  · cases e1
    refine ⟨by rw [List.length_set]; exact h.1, .inr ⟨b, cap, _, rfl, hbs, heap_setCell_same w b j _ e v hg, h1, h2, by simpa using h3, ?_⟩⟩
    rw [Array.toList_setIfInBounds, List.take_set, h4]

/-- five cells in a row's midst -/
def five5 (w : World) (g o : Nat) (x0 x1 x2 x3 x4 : Value) : World := ((((w.setCell ⟨g, o, none⟩ x0).setCell ⟨g, o + 1, none⟩ x1).setCell ⟨g, o + 2, none⟩ x2).setCell ⟨g, o + 3, none⟩ x3).setCell ⟨g, o + 4, none⟩ x4

theorem set5 {α : Type} (l : List α) (z0 z1 z2 z3 z4 x0 x1 x2 x3 x4 : α) : (((((l ++ [z0, z1, z2, z3, z4]).set l.length x0).set (l.length + 1) x1).set (l.length + 2) x2).set (l.length + 3) x3).set (l.length + 4) x4 = l ++ [x0, x1, x2, x3, x4] := by
  rw [List.set_append_right _ _ (Nat.le_refl _), List.set_append_right _ _ (by omega), List.set_append_right _ _ (by omega), List.set_append_right _ _ (by omega), List.set_append_right _ _ (by omega)]
  simp

theorem own_five {w : World} {base : Nat} {e : TypeId} {g n cap : Nat} {l : List Value} {z0 z1 z2 z3 z4 : Value} (hl : l.length = n * 5) (h : w.ownsRow base e 5 (.slice (some ⟨g, 0, none⟩) (n + 1) cap) (n + 1) (l ++ [z0, z1, z2, z3, z4])) (x0 x1 x2 x3 x4 : Value) :
    (five5 w g (n * 5) x0 x1 x2 x3 x4).ownsRow base e 5 (.slice (some ⟨g, 0, none⟩) (n + 1) cap) (n + 1) (l ++ [x0, x1, x2, x3, x4]) := by
  have := own_setN (own_setN (own_setN (own_setN (own_setN (j := n * 5) h x0) (j := n * 5 + 1) x1) (j := n * 5 + 2) x2) (j := n * 5 + 3) x3) (j := n * 5 + 4) x4
  rw [← hl, set5] at this
  rw [← hl]
  exact this

theorem five5_other (w : World) (g o q : Nat) (x0 x1 x2 x3 x4 : Value) (h : q ≠ g) : (five5 w g o x0 x1 x2 x3 x4).heap[q]? = w.heap[q]? := by
  unfold five5
  rw [heap_setCell_other _ _ _ _ h, heap_setCell_other _ _ _ _ h, heap_setCell_other _ _ _ _ h, heap_setCell_other _ _ _ _ h, heap_setCell_other _ _ _ _ h]
theorem five5_size (w : World) (g o : Nat) (x0 x1 x2 x3 x4 : Value) : (five5 w g o x0 x1 x2 x3 x4).heap.size = w.heap.size := by simp [five5]
theorem five5_below {B g o : Nat} {a w : World} (h : Below B a w) (hg : B ≤ g) (x0 x1 x2 x3 x4 : Value) : Below B a (five5 w g o x0 x1 x2 x3 x4) :=
  ((((h.setCell (p := ⟨g, o, none⟩) hg x0).setCell (p := ⟨g, o + 1, none⟩) hg x1).setCell (p := ⟨g, o + 2, none⟩) hg x2).setCell (p := ⟨g, o + 3, none⟩) hg x3).setCell (p := ⟨g, o + 4, none⟩) hg x4

theorem own_sl {g b n c : Nat} (h : (Value.slice (some ⟨g, 0, none⟩) n c).ownBlock = some b) : g = b := by simpa [Value.ownBlock] using h

/-- one constant more in the module -/
theorem RdM.pushC {w0 w w7 w9 : World} {I : Nat → Obj → Prop} {gr g7 cap7 lo n : Nat} {vb vy : Value} {a : Int} {C F X : Value} {m : Md} {V : Nat → List Value} {y : Vl} {cs : List Value} (h : RdM w0 I w gr vb vy a C F X m V) (hn : m.cs.length = n)
    (hF7 : ∀ b, b < w.heap.size → some b ≠ C.ownBlock → w7.heap[b]? = w.heap[b]?) (hs7 : w.heap.size ≤ w7.heap.size) (hB7 : Below gr w w7) (hat : C.ownBlock = some g7 ∨ w.heap.size ≤ g7)
    (hown : w9.ownsRow (gr + 1) 51 5 (.slice (some ⟨g7, 0, none⟩) (n + 1) cap7) (n + 1) (flat V n ++ cs)) (hbox : w9.heap[gr]? = some (.cells #[vb, vy, .int .i64 a, .slice (some ⟨g7, 0, none⟩) (n + 1) cap7, F, X] 40 (0, 0)))
    (hoth : ∀ b, b ≠ gr → b ≠ g7 → w9.heap[b]? = w7.heap[b]?) (hs9 : w9.heap.size = w7.heap.size) (hB9 : Below gr w7 w9) (hcs : cs.length = 5) (hx : IsQ w (fun b => lo ≤ b ∧ b < w.heap.size) y (.agg cs.toArray))
    (hlC : ∀ b, C.ownBlock = some b → b < lo) (hlF : ∀ b, F.ownBlock = some b → b < lo) (hlX : ∀ b, X.ownBlock = some b → b < lo) (hlg : gr < lo) :
    RdM w0 I w9 gr vb vy a (.slice (some ⟨g7, 0, none⟩) (n + 1) cap7) F X ⟨m.cs ++ [y], m.fs, m.xs⟩ (setV V n cs) := by
  have hC := h.ownC.lt
  have keep : ∀ b, b < w.heap.size → b ≠ gr → some b ≠ C.ownBlock → w9.heap[b]? = w.heap[b]? := fun b hb hng hnc => by
    rw [hoth b hng (fun e => ?_), hF7 b hb hnc]
    rcases hat with hat | hat
    · exact hnc (by rw [hat, e])
    · omega
  have ne7 : ∀ b, b < w.heap.size → some b ≠ C.ownBlock → b ≠ g7 := fun b hb hnc e => by
    rcases hat with hat | hat
    · exact hnc (by rw [hat, e])
    · omega
  refine ⟨hbox, h.old.trans (hB7.trans hB9), ?_, ?_, ?_, ?_, ?_, ?_⟩
  · rw [List.length_append, List.length_singleton, hn, flat_set]
    exact hown
  · exact own_later h.ownF (fun b hl hv => keep b hl (by have := (h.ownF.lt b hv).1; omega) (own_apartM h.ownF h.ownC (by decide) b hv))
  · exact own_later h.ownX (fun b hl hv => keep b hl (by have := (h.ownX.lt b hv).1; omega) (own_apartM h.ownX h.ownC (by decide) b hv))
  · intro c hc
    rw [List.length_append, List.length_singleton, hn] at hc
    by_cases e : c = n
    · subst e; rw [setV_same]; exact hcs
    · rw [setV_other V n cs (by omega)]; exact h.row c (by omega)
  · intro c z hz
    have hown7 : ∀ b, some b ≠ (Value.slice (some ⟨g7, 0, none⟩) (n + 1) cap7).ownBlock ↔ b ≠ g7 := fun b => by simp [Value.ownBlock]
    by_cases e : c = n
    · subst e
      rw [setV_same]
      rw [List.getElem?_append_right (by omega), hn, Nat.sub_self] at hz
      have hzy : y = z := by simpa using hz
      subst hzy
      refine hx.to (fun b hP => keep b hP.2 (by omega) (fun e => by have := hlC b e.symm; omega)) (fun b hP => ⟨by omega, by omega, (hown7 b).2 (ne7 b hP.2 (fun e => by have := hlC b e.symm; omega)), fun e => by have := hlF b e.symm; omega, fun e => by have := hlX b e.symm; omega⟩)
    · have hc : c < n := by
        have := (List.getElem?_eq_some_iff.1 hz).1
        rw [List.length_append, List.length_singleton, hn] at this
        omega
      rw [setV_other V n cs hc]
      rw [List.getElem?_append_left (by omega)] at hz
      refine (h.el c z hz).to (fun b hP => keep b hP.2.1 (by have := hP.1; omega) hP.2.2.1) (fun b hP => ⟨hP.1, by have := hP.2.1; omega, (hown7 b).2 (ne7 b hP.2.1 hP.2.2.1), hP.2.2.2.1, hP.2.2.2.2⟩)
  · intro b c hI
    obtain ⟨i1, i2, i3, i4, i5⟩ := h.side b c hI
    have hbl := (Array.getElem?_eq_some_iff.1 i1).1
    refine ⟨(keep b hbl i2 i3).trans i1, i2, fun e => ?_, i4, i5⟩
    exact ne7 b hbl i3 (own_sl e.symm).symm

/-- behind the region, the reader's place set -/
structure RcT (Y : World → Nat → Value → Prop) (w wx : World) (gb : Nat) (x0 x1 x2 x3 x4 : Value) : Prop where
  row : wx.heap[gb]? = some (.cells #[x0, x1, x2, x3, x4] 51 (0, 0))
  low : w.heap.size ≤ gb
  size : w.heap.size ≤ wx.heap.size
  said : Y wx w.heap.size (.agg #[x0, x1, x2, x3, x4])

theorem RcS.setAt {Y : World → Nat → Value → Prop} {w wx : World} {gb gr : Nat} {x0 x1 x2 x3 x4 : Value} (h : RcS Y w wx gb x0 x1 x2 x3 x4) (hY : KeepY Y) (hg : gr < w.heap.size) (v : Value) : RcT Y w (wx.setCell ⟨gr, 2, none⟩ v) gb x0 x1 x2 x3 x4 :=
  ⟨(heap_setCell_other _ _ _ _ (by have := h.low; simp; omega)).trans h.row, h.low, by simpa using h.below.size, hY _ _ _ _ gr _ h.said (Nat.le_refl _) (Or.inl hg) (by simp) (fun b _ hn => heap_setCell_other _ _ _ _ hn)⟩

theorem five_size (w : World) (g : Nat) (x0 x1 x2 x3 x4 : Value) : (((((w.setCell ⟨g, 0, none⟩ x0).setCell ⟨g, 1, none⟩ x1).setCell ⟨g, 2, none⟩ x2).setCell ⟨g, 3, none⟩ x3).setCell ⟨g, 4, none⟩ x4).heap.size = w.heap.size := by simp

theorem RcS.of {Y : World → Nat → Value → Prop} (hY : KeepY Y) {w wb : World} {gb B : Nat} {x0 x1 x2 x3 x4 : Value} {z0 z1 z2 z3 z4 : Value} (hz : wb.heap[gb]? = some (.cells #[z0, z1, z2, z3, z4] 51 (0, 0))) (hlow : w.heap.size ≤ gb) (hb : Below w.heap.size w wb) (hBw : w.heap.size ≤ B) {wy : World} (hy : Y wy B (.agg #[x0, x1, x2, x3, x4])) (hg : gb < B ∨ wy.heap.size ≤ gb) (hs : wy.heap.size ≤ wb.heap.size) (hk : ∀ b, b < wy.heap.size → b ≠ gb → wb.heap[b]? = wy.heap[b]?) :
    RcS Y w (((((wb.setCell ⟨gb, 0, none⟩ x0).setCell ⟨gb, 1, none⟩ x1).setCell ⟨gb, 2, none⟩ x2).setCell ⟨gb, 3, none⟩ x3).setCell ⟨gb, 4, none⟩ x4) gb x0 x1 x2 x3 x4 :=
  ⟨five_set wb gb _ _ _ _ _ _ x0 x1 x2 x3 x4 hz, hlow, five_below hb hlow x0 x1 x2 x3 x4, hY _ _ _ _ gb _ hy hBw hg (by rw [five_size]; exact hs) (fun b hb' hne => by rw [five_other wb gb b x0 x1 x2 x3 x4 hne]; exact hk b hb' hne)⟩

set_option maxRecDepth 100000 in
set_option maxHeartbeats 2000000 in
theorem readC_bad (w0 : World) (I : Nat → Obj → Prop) (gr : Nat) (vb : Value) (bo : Option Addr) (e bc : Nat) (a : Nat) (C F X : Value) (m : Md) (V : Nat → List Value) (w : World) (h : RdM w0 I w gr vb (.slice bo e bc) a C F X m V) (Y : World → Nat → Value → Prop) (hY : KeepY Y) (nx c : Int) (hc : c = 41 ∨ c = 42)
    (CT0 : ∀ u, Below w.heap.size w u → Calls Try.prog 54 #[.slice bo e bc, .int .i64 (a : Int)] u fun e w' => TkR Y nx c u e w') :
    Calls Try.prog 35 #[.pointer (some ⟨gr, 0, none⟩)] w fun e' w' => e' = .returned (.int .i64 (if c = 42 then 92 else 91)) ∧ RdM w0 I w' gr vb (.slice bo e bc) nx C F X m V := by
  have CT := hide CT0
  obtain ⟨c0, c1, c2, c3, c4, c5⟩ := row_cells6 h.box
  have S1 : Hid (∀ u, Below w.heap.size w u → u.cell? ⟨gr, 1, none⟩ = some (.slice bo e bc) ∧ u.cell? ⟨gr, 2, none⟩ = some (.int .i64 (a : Int))) := hide (fun u hu => ⟨cell_later hu c1, cell_later hu c2⟩)
  have HH := hide h
  have HKY := hide hY
  have HGW : Hid (gr < w.heap.size) := hide h.lt
  clear h CT0 hY
  go_enter Try.func35, Try.ntmps35
  go_upto_region 1 with fail
  clear c0 c1 c2 c3 c4 c5
  go_cut [3, 4, 5] from 7 to 19 (fun y3 y4 y5 wx => ∃ (gb : Nat) (x0 x1 : Int) (x2 : ByteArray) (al ak : Option Addr) (ll cl mm ck : Nat), y3 = .pointer (some ⟨gb, 0, none⟩) ∧ y4 = .int .i64 nx ∧ y5 = .int .i64 c ∧ Hid (RcS Y w wx gb (.int .i64 x0) (.int .i64 x1) (.string x2) (.slice al ll cl) (.slice ak mm ck)))
  case first =>
    refine till_begin (S := fun u => u.cell? ⟨gr, 1, none⟩ = some (.slice bo e bc) ∧ u.cell? ⟨gr, 2, none⟩ = some (.int .i64 (a : Int))) 16 (by kernel_rfl) ?_
    obtain ⟨w2, hw2⟩ : ∃ w2, w.drew = w2 := ⟨_, rfl⟩
    have HB2 : Hid (Below w.heap.size w w2) := hide (by rw [← hw2]; exact (Below.refl _ _).drew)
    rw [hw2]
    clear hw2
    refine till_take 0 (v := .pointer (some ⟨gr, 0, none⟩)) (some 7) rfl rfl rfl (by kernel_rfl) (by kernel_rfl) (by kernel_rfl) (by kernel_rfl) (fun _ _ _ h => h) (Or.inl ⟨by rfl, fun u hu => by obtain ⟨c1, c2⟩ := hu; go_simp⟩) (unhide S1 _ (unhide HB2)) ?_
    try simp only [Act.put, List.setIfInBounds_toArray, List.set_cons_zero, List.set_cons_succ]
    refine till_take 1 (v := .pointer (some ⟨gr, 0, none⟩)) (some 8) rfl rfl rfl (by kernel_rfl) (by kernel_rfl) (by kernel_rfl) (by kernel_rfl) (fun _ _ _ h => h) (Or.inl ⟨by rfl, fun u hu => by obtain ⟨c1, c2⟩ := hu; go_simp⟩) (unhide S1 _ (unhide HB2)) ?_
    try simp only [Act.put, List.setIfInBounds_toArray, List.set_cons_zero, List.set_cons_succ]
    refine till_take 2 (v := .pointer (some ⟨gr, 1, none⟩)) (some 9) rfl rfl rfl (by kernel_rfl) (by kernel_rfl) (by kernel_rfl) (by kernel_rfl) (fun _ _ _ h => h) (Or.inl ⟨by rfl, fun u hu => by obtain ⟨c1, c2⟩ := hu; go_simp⟩) (unhide S1 _ (unhide HB2)) ?_
    try simp only [Act.put, List.setIfInBounds_toArray, List.set_cons_zero, List.set_cons_succ]
    refine till_take 3 (v := .slice bo e bc) (some 10) rfl rfl rfl (by kernel_rfl) (by kernel_rfl) (by kernel_rfl) (by kernel_rfl) (fun _ _ _ h => h) (Or.inl ⟨by rfl, fun u hu => by obtain ⟨c1, c2⟩ := hu; go_simp⟩) (unhide S1 _ (unhide HB2)) ?_
    try simp only [Act.put, List.setIfInBounds_toArray, List.set_cons_zero, List.set_cons_succ]
    refine till_take 4 (v := .pointer (some ⟨gr, 0, none⟩)) (some 11) rfl rfl rfl (by kernel_rfl) (by kernel_rfl) (by kernel_rfl) (by kernel_rfl) (fun _ _ _ h => h) (Or.inl ⟨by rfl, fun u hu => by obtain ⟨c1, c2⟩ := hu; go_simp⟩) (unhide S1 _ (unhide HB2)) ?_
    try simp only [Act.put, List.setIfInBounds_toArray, List.set_cons_zero, List.set_cons_succ]
    refine till_take 5 (v := .pointer (some ⟨gr, 0, none⟩)) (some 12) rfl rfl rfl (by kernel_rfl) (by kernel_rfl) (by kernel_rfl) (by kernel_rfl) (fun _ _ _ h => h) (Or.inl ⟨by rfl, fun u hu => by obtain ⟨c1, c2⟩ := hu; go_simp⟩) (unhide S1 _ (unhide HB2)) ?_
    try simp only [Act.put, List.setIfInBounds_toArray, List.set_cons_zero, List.set_cons_succ]
    refine till_take 6 (v := .pointer (some ⟨gr, 2, none⟩)) (some 13) rfl rfl rfl (by kernel_rfl) (by kernel_rfl) (by kernel_rfl) (by kernel_rfl) (fun _ _ _ h => h) (Or.inl ⟨by rfl, fun u hu => by obtain ⟨c1, c2⟩ := hu; go_simp⟩) (unhide S1 _ (unhide HB2)) ?_
    try simp only [Act.put, List.setIfInBounds_toArray, List.set_cons_zero, List.set_cons_succ]
    refine till_take 7 (v := .int .i64 (a : Int)) (some 14) rfl rfl rfl (by kernel_rfl) (by kernel_rfl) (by kernel_rfl) (by kernel_rfl) (fun _ _ _ h => h) (Or.inl ⟨by rfl, fun u hu => by obtain ⟨c1, c2⟩ := hu; go_simp⟩) (unhide S1 _ (unhide HB2)) ?_
    try simp only [Act.put, List.setIfInBounds_toArray, List.set_cons_zero, List.set_cons_succ]
    refine till_two 8 13 (by kernel_rfl) rfl rfl (fun K hK => ?_) (fun K hK => ?_)
    · go_simp
      refine (unhide CT w2 (unhide HB2)).mono ?_
      rintro e5 u ⟨x0, x1, x2, al, ak, ll, cl, mm, ck, rfl, y5, b5⟩
      have HB5 : Hid (Below w.heap.size w u) := hide ((unhide HB2).trans (b5.mono (unhide HB2).size))
      have HY5 := hide y5
      have HZ5 : Hid (w.heap.size ≤ w2.heap.size) := hide (unhide HB2).size
      clear y5 b5
      go_wp2_with fail
      refine hK.out _ _ (Or.inr (unhide S1 _ (unhide HB5))) ?_
      clear hK K
      try simp only [Act.put, List.setIfInBounds_toArray, List.set_cons_zero, List.set_cons_succ]
      refine till_take 9 (v := .tuple #[.agg #[.int .i64 x0, .int .i64 x1, .string x2, .slice al ll cl, .slice ak mm ck], .int .i64 nx, .int .i64 c]) (some 6) rfl rfl rfl (by kernel_rfl) (by kernel_rfl) (by kernel_rfl) (by kernel_rfl) (fun _ _ _ h => h) (Or.inl ⟨by rfl, fun u hu => by obtain ⟨c1, c2⟩ := hu; go_simp⟩) (unhide S1 _ (unhide HB5)) ?_
      try simp only [Act.put, List.setIfInBounds_toArray, List.set_cons_zero, List.set_cons_succ]
      refine till_take 10 (v := .agg #[.int .i64 x0, .int .i64 x1, .string x2, .slice al ll cl, .slice ak mm ck]) (some 16) rfl rfl rfl (by kernel_rfl) (by kernel_rfl) (by kernel_rfl) (by kernel_rfl) (fun _ _ _ h => h) (Or.inl ⟨by rfl, fun u hu => by obtain ⟨c1, c2⟩ := hu; go_simp⟩) (unhide S1 _ (unhide HB5)) ?_
      try simp only [Act.put, List.setIfInBounds_toArray, List.set_cons_zero, List.set_cons_succ]
      refine till_take 11 (v := .int .i64 nx) (some 17) rfl rfl rfl (by kernel_rfl) (by kernel_rfl) (by kernel_rfl) (by kernel_rfl) (fun _ _ _ h => h) (Or.inl ⟨by rfl, fun u hu => by obtain ⟨c1, c2⟩ := hu; go_simp⟩) (unhide S1 _ (unhide HB5)) ?_
      try simp only [Act.put, List.setIfInBounds_toArray, List.set_cons_zero, List.set_cons_succ]
      refine till_take 12 (v := .int .i64 c) (some 18) rfl rfl rfl (by kernel_rfl) (by kernel_rfl) (by kernel_rfl) (by kernel_rfl) (fun _ _ _ h => h) (Or.inl ⟨by rfl, fun u hu => by obtain ⟨c1, c2⟩ := hu; go_simp⟩) (unhide S1 _ (unhide HB5)) ?_
      try simp only [Act.put, List.setIfInBounds_toArray, List.set_cons_zero, List.set_cons_succ]
      refine till_one 13 (by kernel_rfl) rfl (fun K hK => ?_)
      go_simp
      obtain ⟨gb, hgb⟩ : ∃ gb, u.heap.size = gb := ⟨_, rfl⟩
      obtain ⟨wb, hwb⟩ : ∃ wb, u.alloc (.cells #[.int .i64 0, .int .i64 0, .string ⟨#[]⟩, .slice none 0 0, .slice none 0 0] 51) = wb := ⟨_, rfl⟩
      have HX : Hid (wb.heap[gb]? = some (.cells #[.int .i64 0, .int .i64 0, .string ⟨#[]⟩, .slice none 0 0, .slice none 0 0] 51 (0, 0)) ∧ w.heap.size ≤ gb ∧ Below w.heap.size w wb ∧ u.heap.size ≤ gb ∧ Below u.heap.size u wb) := hide (by
        have q : Below u.heap.size u wb := by rw [← hwb]; exact (Below.refl _ _).alloc (Nat.le_refl _) _
        refine ⟨by rw [← hwb, ← hgb]; exact heap_alloc_new u _, by rw [← hgb]; exact (unhide HB5).size, (unhide HB5).trans (q.mono (unhide HB5).size), by omega, q⟩)
      rw [hgb, hwb]
      refine hK.out _ _ (Or.inr (unhide S1 _ (unhide HX).2.2.1)) ?_
      clear hK K hwb hgb
      try simp only [Act.put, List.setIfInBounds_toArray, List.set_cons_zero, List.set_cons_succ]
      refine till_one 14 (by kernel_rfl) rfl (fun K hK => ?_)
      obtain ⟨d0, d1, d2, d3, d4⟩ := row_cell (unhide HX).1
      have f0 : wb.frozen? ⟨gb, 0, none⟩ = false := frozen_of_row wb gb 0 _ _ (unhide HX).1
      have f1 : wb.frozen? ⟨gb, 1, none⟩ = false := frozen_of_row wb gb 1 _ _ (unhide HX).1
      have f2 : wb.frozen? ⟨gb, 2, none⟩ = false := frozen_of_row wb gb 2 _ _ (unhide HX).1
      have f3 : wb.frozen? ⟨gb, 3, none⟩ = false := frozen_of_row wb gb 3 _ _ (unhide HX).1
      have f4 : wb.frozen? ⟨gb, 4, none⟩ = false := frozen_of_row wb gb 4 _ _ (unhide HX).1
      go_simp
      have H9 := hide (RcS.of (unhide HKY) (unhide HX).1 (unhide HX).2.1 (unhide HX).2.2.1 (unhide HZ5) (unhide HY5) (Or.inr (unhide HX).2.2.2.1) (unhide HX).2.2.2.2.size (fun b hb _ => (unhide HX).2.2.2.2.block b hb))
      obtain ⟨w9, hw9⟩ : ∃ w9, (((((wb.setCell ⟨gb, 0, none⟩ (.int .i64 x0)).setCell ⟨gb, 1, none⟩ (.int .i64 x1)).setCell ⟨gb, 2, none⟩ (.string x2)).setCell ⟨gb, 3, none⟩ (.slice al ll cl)).setCell ⟨gb, 4, none⟩ (.slice ak mm ck)) = w9 := ⟨_, rfl⟩
      rw [hw9] at H9 ⊢
      clear hw9 d0 d1 d2 d3 d4 f0 f1 f2 f3 f4
      refine hK.out _ _ (Or.inr (unhide S1 _ (unhide H9).below)) ?_
      clear hK K
      try simp only [Act.put, List.setIfInBounds_toArray, List.set_cons_zero, List.set_cons_succ]
      refine till_take 15 (v := .int .i64 nx) (some 4) rfl rfl rfl (by kernel_rfl) (by kernel_rfl) (by kernel_rfl) (by kernel_rfl) (fun _ _ _ h => h) (Or.inl ⟨by rfl, fun u hu => by obtain ⟨c1, c2⟩ := hu; go_simp⟩) (unhide S1 _ (unhide H9).below) ?_
      try simp only [Act.put, List.setIfInBounds_toArray, List.set_cons_zero, List.set_cons_succ]
      refine till_one 16 (by kernel_rfl) rfl (fun K hK => ?_)
      go_simp
      refine hK.out _ _ (Or.inl rfl) ?_
      clear hK K
      try simp only [Act.put, List.setIfInBounds_toArray, List.set_cons_zero, List.set_cons_succ]
      refine till_done (by kernel_rfl) ?_ _
      go_wp2_with fail
      go_meet
      exact ⟨gb, x0, x1, x2, al, ak, ll, cl, mm, ck, rfl, rfl, rfl, H9⟩
    · go_simp
      obtain ⟨gb, hgb⟩ : ∃ gb, w2.heap.size = gb := ⟨_, rfl⟩
      obtain ⟨wa, hwa⟩ : ∃ wa, w2.alloc (.cells #[.int .i64 0, .int .i64 0, .string ⟨#[]⟩, .slice none 0 0, .slice none 0 0] 51) = wa := ⟨_, rfl⟩
      have HA : Hid (wa.heap[gb]? = some (.cells #[.int .i64 0, .int .i64 0, .string ⟨#[]⟩, .slice none 0 0, .slice none 0 0] 51 (0, 0)) ∧ w.heap.size ≤ gb ∧ Below w.heap.size w wa ∧ gb < wa.heap.size) := hide (by
        have q : Below w2.heap.size w2 wa := by rw [← hwa]; exact (Below.refl _ _).alloc (Nat.le_refl _) _
        refine ⟨by rw [← hwa, ← hgb]; exact heap_alloc_new w2 _, by rw [← hgb]; exact (unhide HB2).size, (unhide HB2).trans (q.mono (unhide HB2).size), by rw [← hwa, ← hgb]; simp⟩)
      rw [hgb, hwa]
      refine hK.out _ _ (Or.inr (unhide S1 _ (unhide HA).2.2.1)) ?_
      clear hK K hwa hgb
      try simp only [Act.put, List.setIfInBounds_toArray, List.set_cons_zero, List.set_cons_succ]
      refine till_one 8 (by kernel_rfl) rfl (fun K hK => ?_)
      go_simp
      refine (unhide CT wa (unhide HA).2.2.1).mono ?_
      rintro e5 wb ⟨x0, x1, x2, al, ak, ll, cl, mm, ck, rfl, y5, b5⟩
      have HX : Hid (wb.heap[gb]? = some (.cells #[.int .i64 0, .int .i64 0, .string ⟨#[]⟩, .slice none 0 0, .slice none 0 0] 51 (0, 0)) ∧ w.heap.size ≤ gb ∧ Below w.heap.size w wb ∧ gb < wa.heap.size ∧ w.heap.size ≤ wa.heap.size) := hide ⟨(b5.block gb (unhide HA).2.2.2).trans (unhide HA).1, (unhide HA).2.1, (unhide HA).2.2.1.trans (b5.mono (unhide HA).2.2.1.size), (unhide HA).2.2.2, (unhide HA).2.2.1.size⟩
      have HY5 := hide y5
      clear y5 b5
      go_wp2_with fail
      refine hK.out _ _ (Or.inr (unhide S1 _ (unhide HX).2.2.1)) ?_
      clear hK K
      try simp only [Act.put, List.setIfInBounds_toArray, List.set_cons_zero, List.set_cons_succ]
      refine till_take 9 (v := .tuple #[.agg #[.int .i64 x0, .int .i64 x1, .string x2, .slice al ll cl, .slice ak mm ck], .int .i64 nx, .int .i64 c]) (some 6) rfl rfl rfl (by kernel_rfl) (by kernel_rfl) (by kernel_rfl) (by kernel_rfl) (fun _ _ _ h => h) (Or.inl ⟨by rfl, fun u hu => by obtain ⟨c1, c2⟩ := hu; go_simp⟩) (unhide S1 _ (unhide HX).2.2.1) ?_
      try simp only [Act.put, List.setIfInBounds_toArray, List.set_cons_zero, List.set_cons_succ]
      refine till_take 10 (v := .agg #[.int .i64 x0, .int .i64 x1, .string x2, .slice al ll cl, .slice ak mm ck]) (some 16) rfl rfl rfl (by kernel_rfl) (by kernel_rfl) (by kernel_rfl) (by kernel_rfl) (fun _ _ _ h => h) (Or.inl ⟨by rfl, fun u hu => by obtain ⟨c1, c2⟩ := hu; go_simp⟩) (unhide S1 _ (unhide HX).2.2.1) ?_
      try simp only [Act.put, List.setIfInBounds_toArray, List.set_cons_zero, List.set_cons_succ]
      refine till_take 11 (v := .int .i64 nx) (some 17) rfl rfl rfl (by kernel_rfl) (by kernel_rfl) (by kernel_rfl) (by kernel_rfl) (fun _ _ _ h => h) (Or.inl ⟨by rfl, fun u hu => by obtain ⟨c1, c2⟩ := hu; go_simp⟩) (unhide S1 _ (unhide HX).2.2.1) ?_
      try simp only [Act.put, List.setIfInBounds_toArray, List.set_cons_zero, List.set_cons_succ]
      refine till_take 12 (v := .int .i64 c) (some 18) rfl rfl rfl (by kernel_rfl) (by kernel_rfl) (by kernel_rfl) (by kernel_rfl) (fun _ _ _ h => h) (Or.inl ⟨by rfl, fun u hu => by obtain ⟨c1, c2⟩ := hu; go_simp⟩) (unhide S1 _ (unhide HX).2.2.1) ?_
      try simp only [Act.put, List.setIfInBounds_toArray, List.set_cons_zero, List.set_cons_succ]
      refine till_one 14 (by kernel_rfl) rfl (fun K hK => ?_)
      obtain ⟨d0, d1, d2, d3, d4⟩ := row_cell (unhide HX).1
      have f0 : wb.frozen? ⟨gb, 0, none⟩ = false := frozen_of_row wb gb 0 _ _ (unhide HX).1
      have f1 : wb.frozen? ⟨gb, 1, none⟩ = false := frozen_of_row wb gb 1 _ _ (unhide HX).1
      have f2 : wb.frozen? ⟨gb, 2, none⟩ = false := frozen_of_row wb gb 2 _ _ (unhide HX).1
      have f3 : wb.frozen? ⟨gb, 3, none⟩ = false := frozen_of_row wb gb 3 _ _ (unhide HX).1
      have f4 : wb.frozen? ⟨gb, 4, none⟩ = false := frozen_of_row wb gb 4 _ _ (unhide HX).1
      go_simp
      have H9 := hide (RcS.of (unhide HKY) (unhide HX).1 (unhide HX).2.1 (unhide HX).2.2.1 (unhide HX).2.2.2.2 (unhide HY5) (Or.inl (unhide HX).2.2.2.1) (Nat.le_refl _) (fun _ _ _ => rfl))
      obtain ⟨w9, hw9⟩ : ∃ w9, (((((wb.setCell ⟨gb, 0, none⟩ (.int .i64 x0)).setCell ⟨gb, 1, none⟩ (.int .i64 x1)).setCell ⟨gb, 2, none⟩ (.string x2)).setCell ⟨gb, 3, none⟩ (.slice al ll cl)).setCell ⟨gb, 4, none⟩ (.slice ak mm ck)) = w9 := ⟨_, rfl⟩
      rw [hw9] at H9 ⊢
      clear hw9 d0 d1 d2 d3 d4 f0 f1 f2 f3 f4
      refine hK.out _ _ (Or.inr (unhide S1 _ (unhide H9).below)) ?_
      clear hK K
      try simp only [Act.put, List.setIfInBounds_toArray, List.set_cons_zero, List.set_cons_succ]
      refine till_take 15 (v := .int .i64 nx) (some 4) rfl rfl rfl (by kernel_rfl) (by kernel_rfl) (by kernel_rfl) (by kernel_rfl) (fun _ _ _ h => h) (Or.inl ⟨by rfl, fun u hu => by obtain ⟨c1, c2⟩ := hu; go_simp⟩) (unhide S1 _ (unhide H9).below) ?_
      try simp only [Act.put, List.setIfInBounds_toArray, List.set_cons_zero, List.set_cons_succ]
      refine till_one 16 (by kernel_rfl) rfl (fun K hK => ?_)
      go_simp
      refine hK.out _ _ (Or.inl rfl) ?_
      clear hK K
      try simp only [Act.put, List.setIfInBounds_toArray, List.set_cons_zero, List.set_cons_succ]
      refine till_done (by kernel_rfl) ?_ _
      go_wp2_with fail
      go_meet
      exact ⟨gb, x0, x1, x2, al, ak, ll, cl, mm, ck, rfl, rfl, rfl, H9⟩
  case rest =>
    obtain ⟨gb, x0, x1, x2, al, ak, ll, cl, mm, ck, rfl, rfl, rfl, H9⟩ := hcut
    have R9 := (unhide HH).later (unhide H9).below
    obtain ⟨c0, c1, c2, c3, c4, c5⟩ := row_cells6 R9.box
    have fz := frozen_of_row wc gr 2 _ _ R9.box
    have HR9 := hide R9
    clear R9 H9 S1 HH
    rcases hc with rfl | rfl
    · go_wp2_with fail
      go_ret
      exact ⟨rfl, (unhide HR9).setAt _⟩
    · go_wp2_with fail
      go_ret
      exact ⟨rfl, (unhide HR9).setAt _⟩

set_option maxRecDepth 100000 in
set_option maxHeartbeats 2000000 in
theorem readC_ok (w0 : World) (I : Nat → Obj → Prop) (gr : Nat) (vb : Value) (bo : Option Addr) (e bc : Nat) (a : Nat) (C F X : Value) (m : Md) (V : Nat → List Value) (w : World) (h : RdM w0 I w gr vb (.slice bo e bc) a C F X m V) (Y : World → Nat → Value → Prop) (hY : KeepY Y) (nx c : Int) (hc : c = 0) (hl : m.cs.length ≤ 100) (y : Vl) (hYI : ∀ u B x, Y u B x → IsQ u (fun b => B ≤ b ∧ b < u.heap.size) y x)
    (CT0 : ∀ u, Below w.heap.size w u → Calls Try.prog 54 #[.slice bo e bc, .int .i64 (a : Int)] u fun e w' => TkR Y nx c u e w') :
    Calls Try.prog 35 #[.pointer (some ⟨gr, 0, none⟩)] w fun e' w' => e' = .returned (.int .i64 0) ∧ ∃ C' V', RdM w0 I w' gr vb (.slice bo e bc) nx C' F X ⟨m.cs ++ [y], m.fs, m.xs⟩ V' := by
  have HC0 := hide hc
  clear hc
  have CT := hide CT0
  obtain ⟨c0, c1, c2, c3, c4, c5⟩ := row_cells6 h.box
  have S1 : Hid (∀ u, Below w.heap.size w u → u.cell? ⟨gr, 1, none⟩ = some (.slice bo e bc) ∧ u.cell? ⟨gr, 2, none⟩ = some (.int .i64 (a : Int))) := hide (fun u hu => ⟨cell_later hu c1, cell_later hu c2⟩)
  have HH := hide h
  have HKY := hide hY
  have HGW : Hid (gr < w.heap.size) := hide h.lt
  clear h CT0 hY
  go_enter Try.func35, Try.ntmps35
  go_upto_region 1 with fail
  clear c0 c1 c2 c3 c4 c5
  go_cut [3, 4, 5] from 7 to 19 (fun y3 y4 y5 wx => ∃ (gb : Nat) (x0 x1 : Int) (x2 : ByteArray) (al ak : Option Addr) (ll cl mm ck : Nat), y3 = .pointer (some ⟨gb, 0, none⟩) ∧ y4 = .int .i64 nx ∧ y5 = .int .i64 c ∧ Hid (RcS Y w wx gb (.int .i64 x0) (.int .i64 x1) (.string x2) (.slice al ll cl) (.slice ak mm ck)))
  case first =>
    refine till_begin (S := fun u => u.cell? ⟨gr, 1, none⟩ = some (.slice bo e bc) ∧ u.cell? ⟨gr, 2, none⟩ = some (.int .i64 (a : Int))) 16 (by kernel_rfl) ?_
    obtain ⟨w2, hw2⟩ : ∃ w2, w.drew = w2 := ⟨_, rfl⟩
    have HB2 : Hid (Below w.heap.size w w2) := hide (by rw [← hw2]; exact (Below.refl _ _).drew)
    rw [hw2]
    clear hw2
    refine till_take 0 (v := .pointer (some ⟨gr, 0, none⟩)) (some 7) rfl rfl rfl (by kernel_rfl) (by kernel_rfl) (by kernel_rfl) (by kernel_rfl) (fun _ _ _ h => h) (Or.inl ⟨by rfl, fun u hu => by obtain ⟨c1, c2⟩ := hu; go_simp⟩) (unhide S1 _ (unhide HB2)) ?_
    try simp only [Act.put, List.setIfInBounds_toArray, List.set_cons_zero, List.set_cons_succ]
    refine till_take 1 (v := .pointer (some ⟨gr, 0, none⟩)) (some 8) rfl rfl rfl (by kernel_rfl) (by kernel_rfl) (by kernel_rfl) (by kernel_rfl) (fun _ _ _ h => h) (Or.inl ⟨by rfl, fun u hu => by obtain ⟨c1, c2⟩ := hu; go_simp⟩) (unhide S1 _ (unhide HB2)) ?_
    try simp only [Act.put, List.setIfInBounds_toArray, List.set_cons_zero, List.set_cons_succ]
    refine till_take 2 (v := .pointer (some ⟨gr, 1, none⟩)) (some 9) rfl rfl rfl (by kernel_rfl) (by kernel_rfl) (by kernel_rfl) (by kernel_rfl) (fun _ _ _ h => h) (Or.inl ⟨by rfl, fun u hu => by obtain ⟨c1, c2⟩ := hu; go_simp⟩) (unhide S1 _ (unhide HB2)) ?_
    try simp only [Act.put, List.setIfInBounds_toArray, List.set_cons_zero, List.set_cons_succ]
    refine till_take 3 (v := .slice bo e bc) (some 10) rfl rfl rfl (by kernel_rfl) (by kernel_rfl) (by kernel_rfl) (by kernel_rfl) (fun _ _ _ h => h) (Or.inl ⟨by rfl, fun u hu => by obtain ⟨c1, c2⟩ := hu; go_simp⟩) (unhide S1 _ (unhide HB2)) ?_
    try simp only [Act.put, List.setIfInBounds_toArray, List.set_cons_zero, List.set_cons_succ]
    refine till_take 4 (v := .pointer (some ⟨gr, 0, none⟩)) (some 11) rfl rfl rfl (by kernel_rfl) (by kernel_rfl) (by kernel_rfl) (by kernel_rfl) (fun _ _ _ h => h) (Or.inl ⟨by rfl, fun u hu => by obtain ⟨c1, c2⟩ := hu; go_simp⟩) (unhide S1 _ (unhide HB2)) ?_
    try simp only [Act.put, List.setIfInBounds_toArray, List.set_cons_zero, List.set_cons_succ]
    refine till_take 5 (v := .pointer (some ⟨gr, 0, none⟩)) (some 12) rfl rfl rfl (by kernel_rfl) (by kernel_rfl) (by kernel_rfl) (by kernel_rfl) (fun _ _ _ h => h) (Or.inl ⟨by rfl, fun u hu => by obtain ⟨c1, c2⟩ := hu; go_simp⟩) (unhide S1 _ (unhide HB2)) ?_
    try simp only [Act.put, List.setIfInBounds_toArray, List.set_cons_zero, List.set_cons_succ]
    refine till_take 6 (v := .pointer (some ⟨gr, 2, none⟩)) (some 13) rfl rfl rfl (by kernel_rfl) (by kernel_rfl) (by kernel_rfl) (by kernel_rfl) (fun _ _ _ h => h) (Or.inl ⟨by rfl, fun u hu => by obtain ⟨c1, c2⟩ := hu; go_simp⟩) (unhide S1 _ (unhide HB2)) ?_
    try simp only [Act.put, List.setIfInBounds_toArray, List.set_cons_zero, List.set_cons_succ]
    refine till_take 7 (v := .int .i64 (a : Int)) (some 14) rfl rfl rfl (by kernel_rfl) (by kernel_rfl) (by kernel_rfl) (by kernel_rfl) (fun _ _ _ h => h) (Or.inl ⟨by rfl, fun u hu => by obtain ⟨c1, c2⟩ := hu; go_simp⟩) (unhide S1 _ (unhide HB2)) ?_
    try simp only [Act.put, List.setIfInBounds_toArray, List.set_cons_zero, List.set_cons_succ]
    refine till_two 8 13 (by kernel_rfl) rfl rfl (fun K hK => ?_) (fun K hK => ?_)
    · go_simp
      refine (unhide CT w2 (unhide HB2)).mono ?_
      rintro e5 u ⟨x0, x1, x2, al, ak, ll, cl, mm, ck, rfl, y5, b5⟩
      have HB5 : Hid (Below w.heap.size w u) := hide ((unhide HB2).trans (b5.mono (unhide HB2).size))
      have HY5 := hide y5
      have HZ5 : Hid (w.heap.size ≤ w2.heap.size) := hide (unhide HB2).size
      clear y5 b5
      go_wp2_with fail
      refine hK.out _ _ (Or.inr (unhide S1 _ (unhide HB5))) ?_
      clear hK K
      try simp only [Act.put, List.setIfInBounds_toArray, List.set_cons_zero, List.set_cons_succ]
      refine till_take 9 (v := .tuple #[.agg #[.int .i64 x0, .int .i64 x1, .string x2, .slice al ll cl, .slice ak mm ck], .int .i64 nx, .int .i64 c]) (some 6) rfl rfl rfl (by kernel_rfl) (by kernel_rfl) (by kernel_rfl) (by kernel_rfl) (fun _ _ _ h => h) (Or.inl ⟨by rfl, fun u hu => by obtain ⟨c1, c2⟩ := hu; go_simp⟩) (unhide S1 _ (unhide HB5)) ?_
      try simp only [Act.put, List.setIfInBounds_toArray, List.set_cons_zero, List.set_cons_succ]
      refine till_take 10 (v := .agg #[.int .i64 x0, .int .i64 x1, .string x2, .slice al ll cl, .slice ak mm ck]) (some 16) rfl rfl rfl (by kernel_rfl) (by kernel_rfl) (by kernel_rfl) (by kernel_rfl) (fun _ _ _ h => h) (Or.inl ⟨by rfl, fun u hu => by obtain ⟨c1, c2⟩ := hu; go_simp⟩) (unhide S1 _ (unhide HB5)) ?_
      try simp only [Act.put, List.setIfInBounds_toArray, List.set_cons_zero, List.set_cons_succ]
      refine till_take 11 (v := .int .i64 nx) (some 17) rfl rfl rfl (by kernel_rfl) (by kernel_rfl) (by kernel_rfl) (by kernel_rfl) (fun _ _ _ h => h) (Or.inl ⟨by rfl, fun u hu => by obtain ⟨c1, c2⟩ := hu; go_simp⟩) (unhide S1 _ (unhide HB5)) ?_
      try simp only [Act.put, List.setIfInBounds_toArray, List.set_cons_zero, List.set_cons_succ]
      refine till_take 12 (v := .int .i64 c) (some 18) rfl rfl rfl (by kernel_rfl) (by kernel_rfl) (by kernel_rfl) (by kernel_rfl) (fun _ _ _ h => h) (Or.inl ⟨by rfl, fun u hu => by obtain ⟨c1, c2⟩ := hu; go_simp⟩) (unhide S1 _ (unhide HB5)) ?_
      try simp only [Act.put, List.setIfInBounds_toArray, List.set_cons_zero, List.set_cons_succ]
      refine till_one 13 (by kernel_rfl) rfl (fun K hK => ?_)
      go_simp
      obtain ⟨gb, hgb⟩ : ∃ gb, u.heap.size = gb := ⟨_, rfl⟩
      obtain ⟨wb, hwb⟩ : ∃ wb, u.alloc (.cells #[.int .i64 0, .int .i64 0, .string ⟨#[]⟩, .slice none 0 0, .slice none 0 0] 51) = wb := ⟨_, rfl⟩
      have HX : Hid (wb.heap[gb]? = some (.cells #[.int .i64 0, .int .i64 0, .string ⟨#[]⟩, .slice none 0 0, .slice none 0 0] 51 (0, 0)) ∧ w.heap.size ≤ gb ∧ Below w.heap.size w wb ∧ u.heap.size ≤ gb ∧ Below u.heap.size u wb) := hide (by
        have q : Below u.heap.size u wb := by rw [← hwb]; exact (Below.refl _ _).alloc (Nat.le_refl _) _
        refine ⟨by rw [← hwb, ← hgb]; exact heap_alloc_new u _, by rw [← hgb]; exact (unhide HB5).size, (unhide HB5).trans (q.mono (unhide HB5).size), by omega, q⟩)
      rw [hgb, hwb]
      refine hK.out _ _ (Or.inr (unhide S1 _ (unhide HX).2.2.1)) ?_
      clear hK K hwb hgb
      try simp only [Act.put, List.setIfInBounds_toArray, List.set_cons_zero, List.set_cons_succ]
      refine till_one 14 (by kernel_rfl) rfl (fun K hK => ?_)
      obtain ⟨d0, d1, d2, d3, d4⟩ := row_cell (unhide HX).1
      have f0 : wb.frozen? ⟨gb, 0, none⟩ = false := frozen_of_row wb gb 0 _ _ (unhide HX).1
      have f1 : wb.frozen? ⟨gb, 1, none⟩ = false := frozen_of_row wb gb 1 _ _ (unhide HX).1
      have f2 : wb.frozen? ⟨gb, 2, none⟩ = false := frozen_of_row wb gb 2 _ _ (unhide HX).1
      have f3 : wb.frozen? ⟨gb, 3, none⟩ = false := frozen_of_row wb gb 3 _ _ (unhide HX).1
      have f4 : wb.frozen? ⟨gb, 4, none⟩ = false := frozen_of_row wb gb 4 _ _ (unhide HX).1
      go_simp
      have H9 := hide (RcS.of (unhide HKY) (unhide HX).1 (unhide HX).2.1 (unhide HX).2.2.1 (unhide HZ5) (unhide HY5) (Or.inr (unhide HX).2.2.2.1) (unhide HX).2.2.2.2.size (fun b hb _ => (unhide HX).2.2.2.2.block b hb))
      obtain ⟨w9, hw9⟩ : ∃ w9, (((((wb.setCell ⟨gb, 0, none⟩ (.int .i64 x0)).setCell ⟨gb, 1, none⟩ (.int .i64 x1)).setCell ⟨gb, 2, none⟩ (.string x2)).setCell ⟨gb, 3, none⟩ (.slice al ll cl)).setCell ⟨gb, 4, none⟩ (.slice ak mm ck)) = w9 := ⟨_, rfl⟩
      rw [hw9] at H9 ⊢
      clear hw9 d0 d1 d2 d3 d4 f0 f1 f2 f3 f4
      refine hK.out _ _ (Or.inr (unhide S1 _ (unhide H9).below)) ?_
      clear hK K
      try simp only [Act.put, List.setIfInBounds_toArray, List.set_cons_zero, List.set_cons_succ]
      refine till_take 15 (v := .int .i64 nx) (some 4) rfl rfl rfl (by kernel_rfl) (by kernel_rfl) (by kernel_rfl) (by kernel_rfl) (fun _ _ _ h => h) (Or.inl ⟨by rfl, fun u hu => by obtain ⟨c1, c2⟩ := hu; go_simp⟩) (unhide S1 _ (unhide H9).below) ?_
      try simp only [Act.put, List.setIfInBounds_toArray, List.set_cons_zero, List.set_cons_succ]
      refine till_one 16 (by kernel_rfl) rfl (fun K hK => ?_)
      go_simp
      refine hK.out _ _ (Or.inl rfl) ?_
      clear hK K
      try simp only [Act.put, List.setIfInBounds_toArray, List.set_cons_zero, List.set_cons_succ]
      refine till_done (by kernel_rfl) ?_ _
      go_wp2_with fail
      go_meet
      exact ⟨gb, x0, x1, x2, al, ak, ll, cl, mm, ck, rfl, rfl, rfl, H9⟩
    · go_simp
      obtain ⟨gb, hgb⟩ : ∃ gb, w2.heap.size = gb := ⟨_, rfl⟩
      obtain ⟨wa, hwa⟩ : ∃ wa, w2.alloc (.cells #[.int .i64 0, .int .i64 0, .string ⟨#[]⟩, .slice none 0 0, .slice none 0 0] 51) = wa := ⟨_, rfl⟩
      have HA : Hid (wa.heap[gb]? = some (.cells #[.int .i64 0, .int .i64 0, .string ⟨#[]⟩, .slice none 0 0, .slice none 0 0] 51 (0, 0)) ∧ w.heap.size ≤ gb ∧ Below w.heap.size w wa ∧ gb < wa.heap.size) := hide (by
        have q : Below w2.heap.size w2 wa := by rw [← hwa]; exact (Below.refl _ _).alloc (Nat.le_refl _) _
        refine ⟨by rw [← hwa, ← hgb]; exact heap_alloc_new w2 _, by rw [← hgb]; exact (unhide HB2).size, (unhide HB2).trans (q.mono (unhide HB2).size), by rw [← hwa, ← hgb]; simp⟩)
      rw [hgb, hwa]
      refine hK.out _ _ (Or.inr (unhide S1 _ (unhide HA).2.2.1)) ?_
      clear hK K hwa hgb
      try simp only [Act.put, List.setIfInBounds_toArray, List.set_cons_zero, List.set_cons_succ]
      refine till_one 8 (by kernel_rfl) rfl (fun K hK => ?_)
      go_simp
      refine (unhide CT wa (unhide HA).2.2.1).mono ?_
      rintro e5 wb ⟨x0, x1, x2, al, ak, ll, cl, mm, ck, rfl, y5, b5⟩
      have HX : Hid (wb.heap[gb]? = some (.cells #[.int .i64 0, .int .i64 0, .string ⟨#[]⟩, .slice none 0 0, .slice none 0 0] 51 (0, 0)) ∧ w.heap.size ≤ gb ∧ Below w.heap.size w wb ∧ gb < wa.heap.size ∧ w.heap.size ≤ wa.heap.size) := hide ⟨(b5.block gb (unhide HA).2.2.2).trans (unhide HA).1, (unhide HA).2.1, (unhide HA).2.2.1.trans (b5.mono (unhide HA).2.2.1.size), (unhide HA).2.2.2, (unhide HA).2.2.1.size⟩
      have HY5 := hide y5
      clear y5 b5
      go_wp2_with fail
      refine hK.out _ _ (Or.inr (unhide S1 _ (unhide HX).2.2.1)) ?_
      clear hK K
      try simp only [Act.put, List.setIfInBounds_toArray, List.set_cons_zero, List.set_cons_succ]
      refine till_take 9 (v := .tuple #[.agg #[.int .i64 x0, .int .i64 x1, .string x2, .slice al ll cl, .slice ak mm ck], .int .i64 nx, .int .i64 c]) (some 6) rfl rfl rfl (by kernel_rfl) (by kernel_rfl) (by kernel_rfl) (by kernel_rfl) (fun _ _ _ h => h) (Or.inl ⟨by rfl, fun u hu => by obtain ⟨c1, c2⟩ := hu; go_simp⟩) (unhide S1 _ (unhide HX).2.2.1) ?_
      try simp only [Act.put, List.setIfInBounds_toArray, List.set_cons_zero, List.set_cons_succ]
      refine till_take 10 (v := .agg #[.int .i64 x0, .int .i64 x1, .string x2, .slice al ll cl, .slice ak mm ck]) (some 16) rfl rfl rfl (by kernel_rfl) (by kernel_rfl) (by kernel_rfl) (by kernel_rfl) (fun _ _ _ h => h) (Or.inl ⟨by rfl, fun u hu => by obtain ⟨c1, c2⟩ := hu; go_simp⟩) (unhide S1 _ (unhide HX).2.2.1) ?_
      try simp only [Act.put, List.setIfInBounds_toArray, List.set_cons_zero, List.set_cons_succ]
      refine till_take 11 (v := .int .i64 nx) (some 17) rfl rfl rfl (by kernel_rfl) (by kernel_rfl) (by kernel_rfl) (by kernel_rfl) (fun _ _ _ h => h) (Or.inl ⟨by rfl, fun u hu => by obtain ⟨c1, c2⟩ := hu; go_simp⟩) (unhide S1 _ (unhide HX).2.2.1) ?_
      try simp only [Act.put, List.setIfInBounds_toArray, List.set_cons_zero, List.set_cons_succ]
      refine till_take 12 (v := .int .i64 c) (some 18) rfl rfl rfl (by kernel_rfl) (by kernel_rfl) (by kernel_rfl) (by kernel_rfl) (fun _ _ _ h => h) (Or.inl ⟨by rfl, fun u hu => by obtain ⟨c1, c2⟩ := hu; go_simp⟩) (unhide S1 _ (unhide HX).2.2.1) ?_
      try simp only [Act.put, List.setIfInBounds_toArray, List.set_cons_zero, List.set_cons_succ]
      refine till_one 14 (by kernel_rfl) rfl (fun K hK => ?_)
      obtain ⟨d0, d1, d2, d3, d4⟩ := row_cell (unhide HX).1
      have f0 : wb.frozen? ⟨gb, 0, none⟩ = false := frozen_of_row wb gb 0 _ _ (unhide HX).1
      have f1 : wb.frozen? ⟨gb, 1, none⟩ = false := frozen_of_row wb gb 1 _ _ (unhide HX).1
      have f2 : wb.frozen? ⟨gb, 2, none⟩ = false := frozen_of_row wb gb 2 _ _ (unhide HX).1
      have f3 : wb.frozen? ⟨gb, 3, none⟩ = false := frozen_of_row wb gb 3 _ _ (unhide HX).1
      have f4 : wb.frozen? ⟨gb, 4, none⟩ = false := frozen_of_row wb gb 4 _ _ (unhide HX).1
      go_simp
      have H9 := hide (RcS.of (unhide HKY) (unhide HX).1 (unhide HX).2.1 (unhide HX).2.2.1 (unhide HX).2.2.2.2 (unhide HY5) (Or.inl (unhide HX).2.2.2.1) (Nat.le_refl _) (fun _ _ _ => rfl))
      obtain ⟨w9, hw9⟩ : ∃ w9, (((((wb.setCell ⟨gb, 0, none⟩ (.int .i64 x0)).setCell ⟨gb, 1, none⟩ (.int .i64 x1)).setCell ⟨gb, 2, none⟩ (.string x2)).setCell ⟨gb, 3, none⟩ (.slice al ll cl)).setCell ⟨gb, 4, none⟩ (.slice ak mm ck)) = w9 := ⟨_, rfl⟩
      rw [hw9] at H9 ⊢
      clear hw9 d0 d1 d2 d3 d4 f0 f1 f2 f3 f4
      refine hK.out _ _ (Or.inr (unhide S1 _ (unhide H9).below)) ?_
      clear hK K
      try simp only [Act.put, List.setIfInBounds_toArray, List.set_cons_zero, List.set_cons_succ]
      refine till_take 15 (v := .int .i64 nx) (some 4) rfl rfl rfl (by kernel_rfl) (by kernel_rfl) (by kernel_rfl) (by kernel_rfl) (fun _ _ _ h => h) (Or.inl ⟨by rfl, fun u hu => by obtain ⟨c1, c2⟩ := hu; go_simp⟩) (unhide S1 _ (unhide H9).below) ?_
      try simp only [Act.put, List.setIfInBounds_toArray, List.set_cons_zero, List.set_cons_succ]
      refine till_one 16 (by kernel_rfl) rfl (fun K hK => ?_)
      go_simp
      refine hK.out _ _ (Or.inl rfl) ?_
      clear hK K
      try simp only [Act.put, List.setIfInBounds_toArray, List.set_cons_zero, List.set_cons_succ]
      refine till_done (by kernel_rfl) ?_ _
      go_wp2_with fail
      go_meet
      exact ⟨gb, x0, x1, x2, al, ak, ll, cl, mm, ck, rfl, rfl, rfl, H9⟩
  case rest =>
    obtain ⟨gb, x0, x1, x2, al, ak, ll, cl, mm, ck, rfl, rfl, rfl, H9⟩ := hcut
    have hc := unhide HC0
    subst hc
    have R9 := (unhide HH).later (unhide H9).below
    obtain ⟨aC, cC, hC, nC, lC, mC, oC⟩ := slice_form R9.ownC
    obtain ⟨n, hn⟩ : ∃ n, m.cs.length = n := ⟨_, rfl⟩
    rw [hn] at hC hl
    have HC9 : Hid (C = .slice aC n cC) := hide hC
    have HN := hide hn
    subst hC
    obtain ⟨c0, c1, c2, c3, c4, c5⟩ := row_cells6 R9.box
    have fz := frozen_of_row wc gr 2 _ _ R9.box
    have HR9 := hide R9
    have HLF : Hid (∀ b, F.ownBlock = some b → b < w.heap.size) := hide (fun b hb => ((unhide HH).ownF.lt b hb).2)
    have HLX : Hid (∀ b, X.ownBlock = some b → b < w.heap.size) := hide (fun b hb => ((unhide HH).ownX.lt b hb).2)
    have HYI := hide hYI
    have HLW : Hid (∀ b, (Value.slice aC n cC).ownBlock = some b → b < w.heap.size) := hide (fun b hb => ((unhide HH).ownC.lt b hb).2)
    clear R9 nC lC mC oC S1 HH hn
    go_upto_region 7 with fail
    have HRA := hide ((unhide HR9).setAt nx)
    have HB9 : Hid (RcT Y w (wc.setCell ⟨gr, 2, none⟩ (.int .i64 nx)) gb (.int .i64 x0) (.int .i64 x1) (.string x2) (.slice al ll cl) (.slice ak mm ck)) := hide ((unhide H9).setAt (unhide HKY) (unhide HGW) _)
    obtain ⟨wd, hwd⟩ : ∃ wd, wc.setCell ⟨gr, 2, none⟩ (.int .i64 nx) = wd := ⟨_, rfl⟩
    rw [hwd] at HRA HB9 ⊢
    clear hwd c0 c1 c2 c3 c4 c5 fz H9 HR9
    have HS0 : Hid (wd.drew.cell? ⟨gr, 3, none⟩ = some (.slice aC n cC) ∧ wd.drew.heap[gb]? = some (.cells #[.int .i64 x0, .int .i64 x1, .string x2, .slice al ll cl, .slice ak mm ck] 51 (0, 0))) := hide ⟨(row_cells6 (unhide HRA).box).2.2.2.1, (unhide HB9).row⟩
    refine tilt_begin (S := fun u => u.cell? ⟨gr, 3, none⟩ = some (.slice aC n cC) ∧ u.heap[gb]? = some (.cells #[.int .i64 x0, .int .i64 x1, .string x2, .slice al ll cl, .slice ak mm ck] 51 (0, 0))) 14 (by kernel_rfl) ?_
    obtain ⟨w2, hw2⟩ : ∃ w2, wd.drew = w2 := ⟨_, rfl⟩
    have HB2 : Hid (Below wd.heap.size wd w2) := hide (by rw [← hw2]; exact (Below.refl _ _).drew)
    rw [hw2] at HS0 ⊢
    clear hw2
    refine tilt_take 0 (v := .pointer (some ⟨gr, 0, none⟩)) (some 27) (by decide) rfl rfl rfl (by kernel_rfl) (by kernel_rfl) (by kernel_rfl) (by kernel_rfl) (fun _ _ _ h => h) (Or.inl ⟨by rfl, fun u hu => by obtain ⟨c3, hb⟩ := hu; obtain ⟨d0, d1, d2, d3, d4⟩ := row_cell hb; go_simp⟩) (unhide HS0) ?_
    try simp only [Act.put, List.setIfInBounds_toArray, List.set_cons_zero, List.set_cons_succ]
    refine tilt_take 1 (v := .pointer (some ⟨gr, 0, none⟩)) (some 28) (by decide) rfl rfl rfl (by kernel_rfl) (by kernel_rfl) (by kernel_rfl) (by kernel_rfl) (fun _ _ _ h => h) (Or.inl ⟨by rfl, fun u hu => by obtain ⟨c3, hb⟩ := hu; obtain ⟨d0, d1, d2, d3, d4⟩ := row_cell hb; go_simp⟩) (unhide HS0) ?_
    try simp only [Act.put, List.setIfInBounds_toArray, List.set_cons_zero, List.set_cons_succ]
    refine tilt_take 2 (v := .pointer (some ⟨gr, 3, none⟩)) (some 29) (by decide) rfl rfl rfl (by kernel_rfl) (by kernel_rfl) (by kernel_rfl) (by kernel_rfl) (fun _ _ _ h => h) (Or.inl ⟨by rfl, fun u hu => by obtain ⟨c3, hb⟩ := hu; obtain ⟨d0, d1, d2, d3, d4⟩ := row_cell hb; go_simp⟩) (unhide HS0) ?_
    try simp only [Act.put, List.setIfInBounds_toArray, List.set_cons_zero, List.set_cons_succ]
    refine tilt_take 3 (v := .pointer (some ⟨gr, 3, none⟩)) (some 30) (by decide) rfl rfl rfl (by kernel_rfl) (by kernel_rfl) (by kernel_rfl) (by kernel_rfl) (fun _ _ _ h => h) (Or.inl ⟨by rfl, fun u hu => by obtain ⟨c3, hb⟩ := hu; obtain ⟨d0, d1, d2, d3, d4⟩ := row_cell hb; go_simp⟩) (unhide HS0) ?_
    try simp only [Act.put, List.setIfInBounds_toArray, List.set_cons_zero, List.set_cons_succ]
    refine tilt_take 4 (v := .slice aC n cC) (some 31) (by decide) rfl rfl rfl (by kernel_rfl) (by kernel_rfl) (by kernel_rfl) (by kernel_rfl) (fun _ _ _ h => h) (Or.inl ⟨by rfl, fun u hu => by obtain ⟨c3, hb⟩ := hu; obtain ⟨d0, d1, d2, d3, d4⟩ := row_cell hb; go_simp⟩) (unhide HS0) ?_
    try simp only [Act.put, List.setIfInBounds_toArray, List.set_cons_zero, List.set_cons_succ]
    refine tilt_take 5 (v := .agg #[.int .i64 x0, .int .i64 x1, .string x2, .slice al ll cl, .slice ak mm ck]) (some 32) (by decide) rfl rfl rfl (by kernel_rfl) (by kernel_rfl) (by kernel_rfl) (by kernel_rfl) (fun _ _ _ h => h) (Or.inl ⟨by rfl, fun u hu => by obtain ⟨c3, hb⟩ := hu; obtain ⟨d0, d1, d2, d3, d4⟩ := row_cell hb; go_simp⟩) (unhide HS0) ?_
    try simp only [Act.put, List.setIfInBounds_toArray, List.set_cons_zero, List.set_cons_succ]
    refine tilt_take 6 (v := .int .i64 (n : Int)) (some 33) (by decide) rfl rfl rfl (by kernel_rfl) (by kernel_rfl) (by kernel_rfl) (by kernel_rfl) (fun _ _ _ h => h) (Or.inl ⟨by rfl, fun u hu => by obtain ⟨c3, hb⟩ := hu; obtain ⟨d0, d1, d2, d3, d4⟩ := row_cell hb; go_simp⟩) (unhide HS0) ?_
    try simp only [Act.put, List.setIfInBounds_toArray, List.set_cons_zero, List.set_cons_succ]
    refine tilt_one 7 (by decide) (by kernel_rfl) rfl (fun K hK => ?_)
    go_simp
    obtain ⟨g6, hg6⟩ : ∃ g6, w2.heap.size = g6 := ⟨_, rfl⟩
    obtain ⟨wa, hwa⟩ : ∃ wa, w2.alloc (.cells #[.int .i64 0, .int .i64 0, .string ⟨#[]⟩, .slice none 0 0, .slice none 0 0] 51) = wa := ⟨_, rfl⟩
    have HA : Hid (wa.heap[g6]? = some (.cells #[.int .i64 0, .int .i64 0, .string ⟨#[]⟩, .slice none 0 0, .slice none 0 0] 51 (0, 0)) ∧ Below wd.heap.size wd wa ∧ wa.cell? ⟨gr, 3, none⟩ = some (.slice aC n cC) ∧ wa.heap[gb]? = some (.cells #[.int .i64 x0, .int .i64 x1, .string x2, .slice al ll cl, .slice ak mm ck] 51 (0, 0))) := hide (by
      have q : Below w2.heap.size w2 wa := by rw [← hwa]; exact (Below.refl _ _).alloc (Nat.le_refl _) _
      refine ⟨by rw [← hwa, ← hg6]; exact heap_alloc_new w2 _, (unhide HB2).trans (q.mono (unhide HB2).size), cell_later q (unhide HS0).1, (q.block gb (lt_of_row (unhide HS0).2)).trans (unhide HS0).2⟩)
    have HRW := hide ((unhide HRA).later (unhide HA).2.1)
    rw [hg6, hwa]
    refine hK.out _ _ (unhide HA).2.2 ?_
    clear hK K hwa hg6
    try simp only [Act.put, List.setIfInBounds_toArray, List.set_cons_zero, List.set_cons_succ]
    obtain ⟨iv, hiv, hz0, hz1, hz2⟩ := info_parts infoVv
    have HI := hide (And.intro hiv (And.intro hz0 (And.intro hz1 hz2)))
    clear hiv hz0 hz1 hz2
    have HOW : Hid (wa.ownsRow (gr + 1) 51 5 (.slice aC n cC) n (flat V n)) := hide (by have := (unhide HRW).ownC; rw [unhide HN] at this; exact this)
    have hbs : gr + 1 ≤ wa.heap.size := (unhide HRW).lt
    have HGB : Hid (∀ b, (Value.slice aC n cC).ownBlock = some b → gr + 1 ≤ b ∧ b < w.heap.size) := hide (fun b hb => ⟨((unhide HOW).lt b hb).1, (unhide HLW) b hb⟩)
    refine tilt_one 8 (by decide) (by kernel_rfl) rfl (fun K hK => ?_)
    refine step_append_lies _ (by rfl) _ _ 24 (by rfl) (gr + 1) 51 iv (.agg #[.int .i64 0, .int .i64 0, .string ⟨#[]⟩, .slice none 0 0, .slice none 0 0]) 5 80 Try.underlying24 (unhide HI).1 (unhide HI).2.1 (unhide HI).2.2.1 (unhide HI).2.2.2 rfl (by omega) (.slice aC n cC) n (flat V n) (by rfl) (unhide HOW) ⟨g6, 0, none⟩ 1 1 [.int .i64 0, .int .i64 0, .string ⟨#[]⟩, .slice none 0 0, .slice none 0 0] (by rfl) (by rfl) (World.news_of_block (unhide HA).1) (by simp [Value.oneCell']) (by omega) (by unfold maxLen; omega) (by omega) hbs _ rfl ?_
    intro g7 cap7 w7 hown7 hgrow7 hat7 hlt7
    change K (Act.put _ (some 35) _) w7
    have HF7 : Hid (∀ b, b < wa.heap.size → some b ≠ (Value.slice aC n cC).ownBlock → w7.heap[b]? = wa.heap[b]?) := hide (fun b hb hn => hgrow7.block b hb hn)
    have hgr7 : w7.heap[gr]? = wa.heap[gr]? := unhide HF7 gr (unhide HRW).lt (fun e => by have := ((unhide HGB) gr e.symm).1; omega)
    have hgb7 : w7.heap[gb]? = wa.heap[gb]? := unhide HF7 gb (lt_of_row (unhide HA).2.2.2) (fun e => by have := ((unhide HGB) gb e.symm).2; have := (unhide HB9).low; omega)
    have HS7 : Hid (w7.cell? ⟨gr, 3, none⟩ = some (.slice aC n cC) ∧ w7.heap[gb]? = some (.cells #[.int .i64 x0, .int .i64 x1, .string x2, .slice al ll cl, .slice ak mm ck] 51 (0, 0))) := hide ⟨(row_cells6 (hgr7.trans (unhide HRW).box)).2.2.2.1, hgb7.trans (unhide HA).2.2.2⟩
    have H7 := hide (And.intro hown7 (And.intro hgrow7 (And.intro hat7 hlt7)))
    have HGR7 := hide (hgr7.trans (unhide HRW).box)
    refine hK.out _ _ (unhide HS7) ?_
    clear hK K hown7 hgrow7 hat7 hlt7 hgr7 hgb7
    try simp only [Act.put, List.setIfInBounds_toArray, List.set_cons_zero, List.set_cons_succ]
    have j9 : (n : Int) < (n : Int) + 1 := by omega
    refine tilt_takeU 9 (v := .pointer (some ⟨g7, n * 5, none⟩)) (some 36) (by decide) rfl rfl (by kernel_rfl) (by kernel_rfl) (by kernel_rfl) (fun _ _ _ h => h) (Or.inl ⟨by rfl, fun u => by go_simp⟩) (unhide HS7) ?_
    try simp only [Act.put, List.setIfInBounds_toArray, List.set_cons_zero, List.set_cons_succ]
    refine tilt_takeU 11 (v := .pointer (some ⟨gr, 0, none⟩)) (some 37) (by decide) rfl rfl (by kernel_rfl) (by kernel_rfl) (by kernel_rfl) (fun _ _ _ h => h) (Or.inl ⟨by rfl, fun u => by go_simp⟩) (unhide HS7) ?_
    try simp only [Act.put, List.setIfInBounds_toArray, List.set_cons_zero, List.set_cons_succ]
    refine tilt_takeU 12 (v := .pointer (some ⟨gr, 3, none⟩)) (some 38) (by decide) rfl rfl (by kernel_rfl) (by kernel_rfl) (by kernel_rfl) (fun _ _ _ h => h) (Or.inl ⟨by rfl, fun u => by go_simp⟩) (unhide HS7) ?_
    try simp only [Act.put, List.setIfInBounds_toArray, List.set_cons_zero, List.set_cons_succ]
    refine tilt_takeU 13 (v := .pointer (some ⟨gr, 3, none⟩)) (some 39) (by decide) rfl rfl (by kernel_rfl) (by kernel_rfl) (by kernel_rfl) (fun _ _ _ h => h) (Or.inl ⟨by rfl, fun u => by go_simp⟩) (unhide HS7) ?_
    try simp only [Act.put, List.setIfInBounds_toArray, List.set_cons_zero, List.set_cons_succ]
    have HFL : Hid ((flat V n).length = n * 5) := hide (flat_len V n (fun j hj => (unhide HRA).row j (by have := unhide HN; omega)))
    have hrow7 : ∃ cur, w7.heap[g7]? = some (.cells cur 51 (0, 0)) := by
      rcases (unhide H7).1.2 with ⟨e1, _⟩ | ⟨g, cap', cur, e1, _, hg, _⟩
      · cases e1
      · cases e1; exact ⟨cur, hg⟩
    obtain ⟨cur7, hcur7⟩ := hrow7
    have r0 : w7.cell? ⟨g7, n * 5, none⟩ = some (.int .i64 0) := by
      have q := (unhide H7).1.cells (g := g7) rfl (n * 5) (.int .i64 0) (by rw [List.getElem?_append_right (by rw [unhide HFL]; omega), unhide HFL]; simp)
      have ha : (⟨g7, 0, none⟩ : Addr).add (n * 5) = ⟨g7, n * 5, none⟩ := by unfold Addr.add; split <;> simp_all
      rw [ha] at q
      exact q
    have q0 : w7.frozen? ⟨g7, n * 5, none⟩ = false := frozen_of_row w7 g7 (n * 5) _ _ hcur7
    have r1 : w7.cell? ⟨g7, n * 5 + 1, none⟩ = some (.int .i64 0) := by
      have q := (unhide H7).1.cells (g := g7) rfl (n * 5 + 1) (.int .i64 0) (by rw [List.getElem?_append_right (by rw [unhide HFL]; omega), unhide HFL]; simp)
      have ha : (⟨g7, 0, none⟩ : Addr).add (n * 5 + 1) = ⟨g7, n * 5 + 1, none⟩ := by unfold Addr.add; split <;> simp_all
      rw [ha] at q
      exact q
    have q1 : w7.frozen? ⟨g7, n * 5 + 1, none⟩ = false := frozen_of_row w7 g7 (n * 5 + 1) _ _ hcur7
    have r2 : w7.cell? ⟨g7, n * 5 + 2, none⟩ = some (.string ⟨#[]⟩) := by
      have q := (unhide H7).1.cells (g := g7) rfl (n * 5 + 2) (.string ⟨#[]⟩) (by rw [List.getElem?_append_right (by rw [unhide HFL]; omega), unhide HFL]; simp)
      have ha : (⟨g7, 0, none⟩ : Addr).add (n * 5 + 2) = ⟨g7, n * 5 + 2, none⟩ := by unfold Addr.add; split <;> simp_all
      rw [ha] at q
      exact q
    have q2 : w7.frozen? ⟨g7, n * 5 + 2, none⟩ = false := frozen_of_row w7 g7 (n * 5 + 2) _ _ hcur7
    have r3 : w7.cell? ⟨g7, n * 5 + 3, none⟩ = some (.slice none 0 0) := by
      have q := (unhide H7).1.cells (g := g7) rfl (n * 5 + 3) (.slice none 0 0) (by rw [List.getElem?_append_right (by rw [unhide HFL]; omega), unhide HFL]; simp)
      have ha : (⟨g7, 0, none⟩ : Addr).add (n * 5 + 3) = ⟨g7, n * 5 + 3, none⟩ := by unfold Addr.add; split <;> simp_all
      rw [ha] at q
      exact q
    have q3 : w7.frozen? ⟨g7, n * 5 + 3, none⟩ = false := frozen_of_row w7 g7 (n * 5 + 3) _ _ hcur7
    have r4 : w7.cell? ⟨g7, n * 5 + 4, none⟩ = some (.slice none 0 0) := by
      have q := (unhide H7).1.cells (g := g7) rfl (n * 5 + 4) (.slice none 0 0) (by rw [List.getElem?_append_right (by rw [unhide HFL]; omega), unhide HFL]; simp)
      have ha : (⟨g7, 0, none⟩ : Addr).add (n * 5 + 4) = ⟨g7, n * 5 + 4, none⟩ := by unfold Addr.add; split <;> simp_all
      rw [ha] at q
      exact q
    have q4 : w7.frozen? ⟨g7, n * 5 + 4, none⟩ = false := frozen_of_row w7 g7 (n * 5 + 4) _ _ hcur7
    have hne7 : g7 ≠ gr := fun e => by have := ((unhide H7).1.lt g7 rfl).1; omega
    have s3 : w7.cell? ⟨gr, 3, none⟩ = some (.slice aC n cC) := (unhide HS7).1
    have t3 : w7.frozen? ⟨gr, 3, none⟩ = false := frozen_of_row w7 gr 3 _ _ (unhide HGR7)
    have HGB7 : Hid (gb ≠ g7) := hide (fun e => by
      rcases (unhide H7).2.2.1 with q | q
      · have := ((unhide HGB) g7 q).2; have := (unhide HB9).low; omega
      · have := lt_of_row (unhide HA).2.2.2; omega)
    have HFIN : Hid (∀ w9, w9.ownsRow (gr + 1) 51 5 (.slice (some ⟨g7, 0, none⟩) (n + 1) cap7) (n + 1) (flat V n ++ [.int .i64 x0, .int .i64 x1, .string x2, .slice al ll cl, .slice ak mm ck]) → w9.heap[gr]? = some (.cells #[vb, .slice bo e bc, .int .i64 nx, (.slice (some ⟨g7, 0, none⟩) (n + 1) cap7), F, X] 40 (0, 0)) → (∀ b, b ≠ gr → b ≠ g7 → w9.heap[b]? = w7.heap[b]?) → w9.heap.size = w7.heap.size → Below gr w7 w9 → ∃ C' V', RdM w0 I w9 gr vb (.slice bo e bc) nx C' F X ⟨m.cs ++ [y], m.fs, m.xs⟩ V') := hide (fun w9 k1 k2 k3 k4 k5 => by
      have hgw := unhide HGW
      have hB7 : Below gr wa w7 := (Below.refl _ _).grown (unhide H7).2.1 (by have := (unhide HRW).lt; omega) (fun k e => by have := ((unhide HGB) k e).1; omega)
      have hat : (Value.slice aC n cC).ownBlock = some g7 ∨ wa.heap.size ≤ g7 := by
        rcases (unhide H7).2.2.1 with q | q
        · exact Or.inl q
        · exact Or.inr (by omega)
      have hIP := (unhide HYI) _ _ _ (unhide HB9).said
      have hIP2 := IsQ.to (w' := wa) (Q := fun b => w.heap.size ≤ b ∧ b < wa.heap.size) (fun b hb => (unhide HA).2.1.block b hb.2) (fun b hb => ⟨hb.1, Nat.lt_of_lt_of_le hb.2 (unhide HA).2.1.size⟩) hIP
      exact ⟨_, _, (unhide HRW).pushC (lo := w.heap.size) (unhide HN) (unhide HF7) (unhide H7).2.1.size hB7 hat k1 k2 k3 k4 k5 rfl hIP2 (fun b hb => ((unhide HGB) b hb).2) (fun b hb => (unhide HLF) b hb) (fun b hb => (unhide HLX) b hb) hgw⟩)
    refine tilt_two 10 (by decide) (by kernel_rfl) rfl rfl (fun K hK => ?_) (fun K hK => ?_)
    · go_simp
      change K _ (five5 w7 g7 (n * 5) (.int .i64 x0) (.int .i64 x1) (.string x2) (.slice al ll cl) (.slice ak mm ck))
      have o8 := own_five (unhide HFL) (unhide H7).1 (.int .i64 x0) (.int .i64 x1) (.string x2) (.slice al ll cl) (.slice ak mm ck)
      have e8 := fun q hq => five5_other w7 g7 (n * 5) q (.int .i64 x0) (.int .i64 x1) (.string x2) (.slice al ll cl) (.slice ak mm ck) hq
      have z8 := five5_size w7 g7 (n * 5) (.int .i64 x0) (.int .i64 x1) (.string x2) (.slice al ll cl) (.slice ak mm ck)
      have b8 := five5_below (o := n * 5) (Below.refl gr w7) (show gr ≤ g7 by have := ((unhide H7).1.lt g7 rfl).1; omega) (.int .i64 x0) (.int .i64 x1) (.string x2) (.slice al ll cl) (.slice ak mm ck)
      obtain ⟨w8, hw8⟩ : ∃ w8, five5 w7 g7 (n * 5) (.int .i64 x0) (.int .i64 x1) (.string x2) (.slice al ll cl) (.slice ak mm ck) = w8 := ⟨_, rfl⟩
      rw [hw8] at o8 e8 z8 b8 ⊢
      have HW8 := hide (And.intro o8 (And.intro e8 (And.intro z8 b8)))
      have HGR8 : Hid (w8.heap[gr]? = some (.cells #[vb, .slice bo e bc, .int .i64 nx, .slice aC n cC, F, X] 40 (0, 0))) := hide ((e8 gr (Ne.symm hne7)).trans (unhide HGR7))
      have s8 : w8.cell? ⟨gr, 3, none⟩ = some (.slice aC n cC) := (row_cells6 (unhide HGR8)).2.2.2.1
      have t8 : w8.frozen? ⟨gr, 3, none⟩ = false := frozen_of_row w8 gr 3 _ _ (unhide HGR8)
      refine hK.out _ _ ⟨s8, (e8 gb (unhide HGB7)).trans (unhide HS7).2⟩ ?_
      clear hK K hw8 o8 e8 z8 b8
      try simp only [Act.put, List.setIfInBounds_toArray, List.set_cons_zero, List.set_cons_succ]
      refine tilt_last (by kernel_rfl) rfl (fun K hK => ?_)
      go_simp
      refine hK.out _ _ ?_
      clear hK K
      try simp only [Act.put, List.setIfInBounds_toArray, List.set_cons_zero, List.set_cons_succ]
      refine any_done (by kernel_rfl) ?_ _
      go_wp2_with fail
      go_ret
      obtain ⟨k1, k2, k3, k4⟩ := unhide HW8
      refine ⟨rfl, unhide HFIN _ ?_ ?_ ?_ ?_ ?_⟩
      · exact own_later k1 (fun b _ hv => by rw [heap_setCell_other _ _ _ _ (by rw [← own_sl hv]; exact hne7)])
      · rw [heap_setCell_same w8 gr 3 _ _ _ (unhide HGR8)]; rfl
      · intro b h1 h2; rw [heap_setCell_other _ _ _ _ (by simpa using h1)]; exact k2 b h2
      · simpa using k3
      · exact k4.setCell (p := ⟨gr, 3, none⟩) (Nat.le_refl _) _
    · go_simp
      have e8 := fun q (hq : q ≠ gr) => heap_setCell_other w7 ⟨gr, 3, none⟩ q (.slice (some ⟨g7, 0, none⟩) (n + 1) cap7) hq
      have g8 := heap_setCell_same w7 gr 3 _ _ (.slice (some ⟨g7, 0, none⟩) (n + 1) cap7) (unhide HGR7)
      have z8 : (w7.setCell ⟨gr, 3, none⟩ (.slice (some ⟨g7, 0, none⟩) (n + 1) cap7)).heap.size = w7.heap.size := by simp
      have b8 := (Below.refl gr w7).setCell (p := ⟨gr, 3, none⟩) (Nat.le_refl _) (.slice (some ⟨g7, 0, none⟩) (n + 1) cap7)
      have o8 : (w7.setCell ⟨gr, 3, none⟩ (.slice (some ⟨g7, 0, none⟩) (n + 1) cap7)).ownsRow (gr + 1) 51 5 (.slice (some ⟨g7, 0, none⟩) (n + 1) cap7) (n + 1) (flat V n ++ [.int .i64 0, .int .i64 0, .string ⟨#[]⟩, .slice none 0 0, .slice none 0 0]) := own_later (unhide H7).1 (fun b _ hv => by rw [heap_setCell_other _ _ _ _ (by rw [← own_sl hv]; exact hne7)])
      obtain ⟨w8, hw8⟩ : ∃ w8, w7.setCell ⟨gr, 3, none⟩ (.slice (some ⟨g7, 0, none⟩) (n + 1) cap7) = w8 := ⟨_, rfl⟩
      rw [hw8] at e8 g8 z8 b8 o8 ⊢
      have HW8 := hide (And.intro o8 (And.intro e8 (And.intro z8 (And.intro b8 g8))))
      have rr0 := (World.cell?_of_block (a := ⟨g7, n * 5, none⟩) (e8 g7 hne7)).trans r0
      have qq0 : w8.frozen? ⟨g7, n * 5, none⟩ = false := frozen_of_row w8 g7 (n * 5) _ _ ((e8 g7 hne7).trans hcur7)
      have rr1 := (World.cell?_of_block (a := ⟨g7, n * 5 + 1, none⟩) (e8 g7 hne7)).trans r1
      have qq1 : w8.frozen? ⟨g7, n * 5 + 1, none⟩ = false := frozen_of_row w8 g7 (n * 5 + 1) _ _ ((e8 g7 hne7).trans hcur7)
      have rr2 := (World.cell?_of_block (a := ⟨g7, n * 5 + 2, none⟩) (e8 g7 hne7)).trans r2
      have qq2 : w8.frozen? ⟨g7, n * 5 + 2, none⟩ = false := frozen_of_row w8 g7 (n * 5 + 2) _ _ ((e8 g7 hne7).trans hcur7)
      have rr3 := (World.cell?_of_block (a := ⟨g7, n * 5 + 3, none⟩) (e8 g7 hne7)).trans r3
      have qq3 : w8.frozen? ⟨g7, n * 5 + 3, none⟩ = false := frozen_of_row w8 g7 (n * 5 + 3) _ _ ((e8 g7 hne7).trans hcur7)
      have rr4 := (World.cell?_of_block (a := ⟨g7, n * 5 + 4, none⟩) (e8 g7 hne7)).trans r4
      have qq4 : w8.frozen? ⟨g7, n * 5 + 4, none⟩ = false := frozen_of_row w8 g7 (n * 5 + 4) _ _ ((e8 g7 hne7).trans hcur7)
      refine hK.out _ _ ?_
      clear hK K hw8 o8 e8 z8 b8 g8
      try simp only [Act.put, List.setIfInBounds_toArray, List.set_cons_zero, List.set_cons_succ]
      refine any_one 10 (by kernel_rfl) rfl (fun K hK => ?_)
      go_simp
      change K _ (five5 w8 g7 (n * 5) (.int .i64 x0) (.int .i64 x1) (.string x2) (.slice al ll cl) (.slice ak mm ck))
      obtain ⟨w9, hw9⟩ : ∃ w9, five5 w8 g7 (n * 5) (.int .i64 x0) (.int .i64 x1) (.string x2) (.slice al ll cl) (.slice ak mm ck) = w9 := ⟨_, rfl⟩
      rw [hw9]
      have HW9 := hide hw9
      refine hK.out _ _ ?_
      clear hK K hw9
      try simp only [Act.put, List.setIfInBounds_toArray, List.set_cons_zero, List.set_cons_succ]
      refine any_done (by kernel_rfl) ?_ _
      go_wp2_with fail
      go_ret
      obtain ⟨k1, k2, k3, k4, k5⟩ := unhide HW8
      refine ⟨rfl, unhide HFIN _ ?_ ?_ ?_ ?_ ?_⟩
      · rw [← unhide HW9]; exact own_five (unhide HFL) k1 (.int .i64 x0) (.int .i64 x1) (.string x2) (.slice al ll cl) (.slice ak mm ck)
      · rw [← unhide HW9, five5_other _ _ _ _ _ _ _ _ _ (Ne.symm hne7), k5]; rfl
      · intro b h1 h2; rw [← unhide HW9, five5_other _ _ _ _ _ _ _ _ _ h2]; exact k2 b h1
      · rw [← unhide HW9, five5_size]; exact k3
      · rw [← unhide HW9]; exact five5_below k4 (by have := ((unhide H7).1.lt g7 rfl).1; omega) (.int .i64 x0) (.int .i64 x1) (.string x2) (.slice al ll cl) (.slice ak mm ck)

theorem keepY_none : KeepY (fun _ _ _ => True) := fun _ _ _ _ _ _ _ _ _ _ _ => trivial
theorem keepY_val (v : Vl) : KeepY (fun u B x => IsQ u (fun b => B ≤ b ∧ b < u.heap.size) v x) := fun w w' B B' g x h hB hg hs hk =>
  IsQ.to (fun b hb => hk b hb.2 (by omega)) (fun b hb => ⟨Nat.le_trans hB hb.1, Nat.lt_of_lt_of_le hb.2 hs⟩) h

theorem readC_any (w0 : World) (I : Nat → Obj → Prop) (gr : Nat) (vb : Value) (bo : Option Addr) (e bc : Nat) (a : Nat) (C F X : Value) (m : Md) (V : Nat → List Value) (bs : List Int) (w : World) (h : RdM w0 I w gr vb (.slice bo e bc) a C F X m V) (hy : Row8 w0 bo e bc bs) (hg : w0.heap.size ≤ gr) (hm : bc ≤ maxLen) (hl : m.cs.length ≤ 100) :
    Calls Try.prog 35 #[.pointer (some ⟨gr, 0, none⟩)] w fun e' w' => ResRd w0 I gr vb (.slice bo e bc) (rdC bs m a) e' w' := by
  have CT := fun u (hu : Below w.heap.size w u) => take_any bo e bc bs (a : Int) u ((h.later hu).bytes hy hg) hm
  unfold rdC
  cases hT : takeR bs (a : Int) with
  | error p =>
    obtain ⟨c, nx⟩ := p
    rw [hT] at CT
    have hc := take_codeM hT
    refine (readC_bad w0 I gr vb bo e bc a C F X m V w h (fun _ _ _ => True) keepY_none nx c hc (fun u hu => (CT u hu).mono ?_)).mono ?_
    · rintro e5 w5 ⟨rfl, b5⟩
      exact ⟨0, 0, ⟨#[]⟩, none, none, 0, 0, 0, 0, rfl, trivial, b5⟩
    · rintro e5 w5 ⟨rfl, r5⟩
      exact ⟨rfl, _, _, _, _, _, r5⟩
  | ok p =>
    obtain ⟨v, n⟩ := p
    rw [hT] at CT
    refine (readC_ok w0 I gr vb bo e bc a C F X m V w h (fun u B x => IsQ u (fun b => B ≤ b ∧ b < u.heap.size) v x) (keepY_val v) (n : Int) 0 rfl hl v (fun _ _ _ h => h) (fun u hu => (CT u hu).mono ?_)).mono ?_
    · rintro e5 w5 ⟨x5, rfl, p5, b5⟩
      obtain ⟨k5, n5, s5, l5, ks5, al5, ak5, cl5, ck5, _, rfl⟩ := p5.shape
      exact ⟨k5, n5, s5, al5, ak5, _, cl5, _, ck5, rfl, p5, b5⟩
    · rintro e5 w5 ⟨rfl, C', V', r5⟩
      exact ⟨rfl, C', F, X, V', r5⟩
end Go.Proofs.Ytfdnhpmldnmncaa
