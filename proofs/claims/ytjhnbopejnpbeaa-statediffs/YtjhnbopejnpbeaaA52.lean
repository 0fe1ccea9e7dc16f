/-
  Every Diff of any two rows, the code's and the document's; what came out is written over, what was lent stays; no conditions but the form's own reach.
-/
import Derived.Test.YtjhnbopejnpbeaaA42
import Derived.Test.YtjhnbopejnpbeaaA43
import Derived.Test.YtjhnbopejnpbeaaA44
import Derived.Test.YtjhnbopejnpbeaaA45
import Derived.Test.YtjhnbopejnpbeaaA47
import Derived.Test.YtjhnbopejnpbeaaA48
import Derived.Test.YtjhnbopejnpbeaaA49
import Derived.Test.YtjhnbopejnpbeaaA51
set_option linter.unusedVariables false
set_option linter.unusedSimpArgs false
namespace Go.Proofs.Ytjhnbopejnpbeaa
open Go.RowKit Go.Shelf
set_option linter.unusedVariables false
set_option linter.unusedSimpArgs false

theorem chI_keyD (es fs : List En) (x : Option Nat × Option Nat) : ∀ c ∈ chI es fs x, (∃ e ∈ es, c.1 = e.1) ∨ ∃ e ∈ fs, c.1 = e.1 := by
  obtain ⟨a, b⟩ := x
  intro c hc
  cases a with
  | none =>
    cases b with
    | none => cases hc
    | some j =>
      cases hj : fs[j]? with
      | none => simp [chI, hj] at hc
      | some f => simp [chI, hj] at hc; subst hc; exact Or.inr ⟨f, List.mem_of_getElem? hj, rfl⟩
  | some i =>
    cases b with
    | none =>
      cases hi : es[i]? with
      | none => simp [chI, hi] at hc
      | some f => simp [chI, hi] at hc; subst hc; exact Or.inl ⟨f, List.mem_of_getElem? hi, rfl⟩
    | some j =>
      cases hj : fs[j]? with
      | none => simp [chI, hj] at hc
      | some f =>
        unfold chI at hc
        dsimp only at hc
        split at hc
        · cases hc
        · rw [hj] at hc
          simp at hc
          subst hc
          exact Or.inr ⟨f, List.mem_of_getElem? hj, rfl⟩

theorem diffL_keyD {es fs : List En} (h : rightE es = true) (h' : rightE fs = true) : ∀ c ∈ diffL es fs, c.1.size ≤ 140737488351232 := by
  intro c hc
  unfold diffL diffB at hc
  rw [h, h'] at hc
  simp only [Bool.and_self, if_pos, List.mem_flatMap] at hc
  obtain ⟨x, _, hx⟩ := hc
  have hk : ∀ l : List En, rightE l = true → ∀ e ∈ l, e.1.size ≤ 140737488351232 := fun l hl e he => by
    have := (right_len hl).2 e he
    unfold entB at this
    simp only [Bool.and_eq_true, decide_eq_true_eq] at this
    have := this.1.2
    omega
  rcases chI_keyD es fs x c hx with ⟨e, he, hce⟩ | ⟨e, he, hce⟩
  · rw [hce]; exact hk es h e he
  · rw [hce]; exact hk fs h' e he

set_option maxRecDepth 100000 in
set_option maxHeartbeats 2000000 in
theorem diffR_any (es fs : List En) (al bl : Option Addr) (n cl m ck B : Nat) (w : World) (hn : es.length = n) (hm : fs.length = m) (h : IsE w (fun b => b < B) es al cl) (h' : IsE w (fun b => b < B) fs bl ck) (hB : B ≤ w.heap.size) :
    Calls Try.prog 9 #[.slice al n cl, .slice bl m ck] w fun e w' => ∃ sv cs, e = .returned (.tuple #[sv, .int .i64 (codeD es fs)]) ∧ ChO w' w.heap.size sv cs ∧ cs.map chOf = diffL es fs ∧ Below w.heap.size w w' := by
  cases hd : diffB es fs with
  | true =>
    have h2 := hd
    unfold diffB at h2
    rw [Bool.and_eq_true] at h2
    have e1 : codeD es fs = 0 := by unfold codeD; rw [hd]; rfl
    rw [e1, diffL_df es fs hd, hn, hm]
    exact diffR_right es fs al bl n cl m ck B w hn hm h h' hB h2.1 h2.2
  | false =>
    have e1 : codeD es fs = 70 := by unfold codeD; rw [hd]; rfl
    have e2 : diffL es fs = [] := by unfold diffL; rw [hd]; rfl
    have C1 := hide (rightRs_any es al n cl B w hn h hB)
    have C2 : Hid (∀ u, Below w.heap.size w u → Calls Try.prog 26 #[.slice bl m ck] u fun e w' => e = .returned (.bool (rightE fs)) ∧ Below u.heap.size u w') := hide (fun u hu => rightRs_any fs bl m ck B u hm (h'.later (hu.mono hB)) (Nat.le_trans hB hu.size))
    unfold diffB at hd
    rw [e1, e2]
    cases h1 : rightE es with
    | false =>
      rw [h1] at C1
      cases h2 : rightE fs with
      | false =>
        rw [h2] at C2
        clear h h' hn hm hd e1 e2 h1 h2
        go_enter Try.func9, Try.ntmps9
        go_wp2_with fail
        refine (unhide C1).mono ?_
        rintro e u ⟨rfl, b1⟩
        have B1 := hide b1
        have C3 := hide (unhide C2 u b1)
        clear b1 C1 C2
        go_wp2_with fail
        refine (unhide C3).mono ?_
        rintro e u2 ⟨rfl, b2⟩
        have B2 := hide ((unhide B1).trans (b2.mono (unhide B1).size))
        clear b2 C3
        go_wp2_with fail
        go_ret2
        exact ⟨_, [], rfl, ChO.nil _ _, rfl, unhide B2⟩
      | true =>
        rw [h2] at C2
        clear h h' hn hm hd e1 e2 h1 h2
        go_enter Try.func9, Try.ntmps9
        go_wp2_with fail
        refine (unhide C1).mono ?_
        rintro e u ⟨rfl, b1⟩
        have B1 := hide b1
        have C3 := hide (unhide C2 u b1)
        clear b1 C1 C2
        go_wp2_with fail
        refine (unhide C3).mono ?_
        rintro e u2 ⟨rfl, b2⟩
        have B2 := hide ((unhide B1).trans (b2.mono (unhide B1).size))
        clear b2 C3
        go_wp2_with fail
        go_ret2
        exact ⟨_, [], rfl, ChO.nil _ _, rfl, unhide B2⟩
    | true =>
      rw [h1] at C1 hd
      have h2 : rightE fs = false := by simpa using hd
      rw [h2] at C2
      clear h h' hn hm hd e1 e2 h1 h2
      go_enter Try.func9, Try.ntmps9
      go_wp2_with fail
      refine (unhide C1).mono ?_
      rintro e u ⟨rfl, b1⟩
      have B1 := hide b1
      have C3 := hide (unhide C2 u b1)
      clear b1 C1 C2
      go_wp2_with fail
      refine (unhide C3).mono ?_
      rintro e u2 ⟨rfl, b2⟩
      have B2 := hide ((unhide B1).trans (b2.mono (unhide B1).size))
      clear b2 C3
      go_wp2_with fail
      go_ret2
      exact ⟨_, [], rfl, ChO.nil _ _, rfl, unhide B2⟩

/-- nothing is changed but what was made behind lo, up to t, a row's own block not -/
structure SpC (u : World) (lo : Nat) (ow : Option Nat) (t : Nat) (wr : World) : Prop where
  os : wr.os = u.os
  tape : wr.tape = u.tape
  output : wr.output = u.output
  size : u.heap.size ≤ wr.heap.size
  block : ∀ b, b < u.heap.size → ¬ (lo ≤ b ∧ some b ≠ ow ∧ b < t) → wr.heap[b]? = u.heap[b]?

theorem SpC.refl (u : World) (lo : Nat) (ow : Option Nat) (t : Nat) : SpC u lo ow t u := ⟨rfl, rfl, rfl, Nat.le_refl _, fun _ _ _ => rfl⟩

theorem SpC.below {w u wr : World} {lo : Nat} {ow : Option Nat} {t : Nat} (h : SpC u lo ow t wr) (hb : Below w.heap.size w u) (hl : w.heap.size ≤ lo) : Below w.heap.size w wr :=
  ⟨h.os.trans hb.os, h.tape.trans hb.tape, h.output.trans hb.output, Nat.le_trans hb.size h.size, fun b hl' => (h.block b (Nat.lt_of_lt_of_le hl' hb.size) (fun e => by have := e.1; omega)).trans (hb.block b hl')⟩

theorem SpC.next {u wr w' : World} {lo t t' : Nat} {ow : Option Nat} {Q : Nat → Prop} (h : SpC u lo ow t wr) (hw : Wiped Q wr w') (ht : t ≤ t') (hQ : ∀ b, Q b → lo ≤ b ∧ some b ≠ ow ∧ b < t') : SpC u lo ow t' w' :=
  ⟨hw.os.trans h.os, hw.tape.trans h.tape, hw.output.trans h.output, Nat.le_trans h.size hw.size, fun b hb hn => by
    have h1 : wr.heap[b]? = u.heap[b]? := h.block b hb (fun e => hn ⟨e.1, e.2.1, by omega⟩)
    have h2 : w'.heap[b]? = wr.heap[b]? := by
      rcases hw.block b (Nat.lt_of_lt_of_le hb h.size) with e | e
      · exact e
      · exact absurd (hQ b e.1) hn
    exact h2.trans h1⟩

/-- the cells of a change that came out -/
theorem ChO.cellsAt {w : World} {lo : Nat} {sv : Value} {cs : List Co} (h : ChO w lo sv cs) (i : Nat) (p : Co) (hp : cs[i]? = some p) : ∃ g cap, sv = .slice (some ⟨g, 0, none⟩) cs.length cap ∧ lo ≤ g ∧ g < w.heap.size ∧ ∀ j v, (Value.string p.1.1 :: Value.bool p.1.2 :: th5 p.2.1)[j]? = some v → w.cell? (((⟨g, 0, none⟩ : Addr).add (i * 7)).add j) = some v := by
  have hcell : ∀ (cs : List Co) (i : Nat) (p : Co), cs[i]? = some p → ∀ j v, (Value.string p.1.1 :: Value.bool p.1.2 :: th5 p.2.1)[j]? = some v → (cellsC cs)[i * 7 + j]? = some v := by
    intro cs
    induction cs with
    | nil => intro i p hp; simp at hp
    | cons c r ih =>
      intro i p hp j v hv
      have hj : j < 7 := by
        have := (List.getElem?_eq_some_iff.1 hv).1
        obtain ⟨t0, t1, t2, t3, t4, t5, t6, t7, t8⟩ := p.2.1
        simpa [th5] using this
      have hlen : (Value.string c.1.1 :: Value.bool c.1.2 :: th5 c.2.1).length = 7 := by
        obtain ⟨t0, t1, t2, t3, t4, t5, t6, t7, t8⟩ := c.2.1
        rfl
      have hcc : cellsC (c :: r) = (Value.string c.1.1 :: Value.bool c.1.2 :: th5 c.2.1) ++ cellsC r := by simp [cellsC]
      rw [hcc]
      cases i with
      | zero =>
        simp at hp
        subst hp
        rw [Nat.zero_mul, Nat.zero_add, List.getElem?_append_left (by omega)]
        exact hv
      | succ i =>
        rw [List.getElem?_append_right (by rw [hlen]; omega), hlen, show (i + 1) * 7 + j - 7 = i * 7 + j by omega]
        exact ih i p (by simpa using hp) j v hv
  rcases h.row.2 with ⟨e, e2⟩ | ⟨g, cap, cur, e, hlo, hg, hcap, hmax, hsz, hcur⟩
  · have : cs = [] := List.eq_nil_of_length_eq_zero e2
    subst this
    simp at hp
  · refine ⟨g, cap, e, hlo, (Array.getElem?_eq_some_iff.1 hg).1, fun j v hv => ?_⟩
    have := h.row.cells (g := g) (by rw [e]; rfl) _ _ (hcell cs i p hp j v hv)
    rw [add_offC] at this
    rw [add_offC, add_offC, Nat.zero_add]
    rw [Nat.zero_add] at this
    exact this

set_option maxRecDepth 100000 in
set_option maxHeartbeats 4000000 in
theorem diffs_walk (es fs : List En) (al bl : Option Addr) (n m ca cb B : Nat) (w : World) (hn : es.length = n) (hm : fs.length = m) (h : IsE w (fun b => b < B) es al ca) (h' : IsE w (fun b => b < B) fs bl cb) (hB : B ≤ w.heap.size) (hb1 : 96 * n ≤ 140737488351232) (hb2 : 96 * m ≤ 140737488351232) :
    Calls Try.prog 3 #[.slice al n ca, .slice bl m cb] w fun e w' => e = .returned (.bool true) ∧ Below w.heap.size w w' := by
  obtain ⟨V1, hV1⟩ := h.csE
  obtain ⟨V2, hV2⟩ := h'.csE
  have hlen : (diffL es fs).length ≤ 256 := by
    cases hd : diffB es fs with
    | false => unfold diffL; rw [hd]; simp
    | true =>
      rw [diffL_df es fs hd]
      have h2 := hd
      unfold diffB at h2
      rw [Bool.and_eq_true] at h2
      have := dfL_len (es.length + fs.length) es fs
      have := (right_len h2.1).1
      have := (right_len h2.2).1
      omega
  have hkey : ∀ c ∈ diffL es fs, c.1.size ≤ 140737488351232 := by
    cases hd : diffB es fs with
    | false => unfold diffL; rw [hd]; intro c hc; cases hc
    | true =>
      have h2 := hd
      unfold diffB at h2
      rw [Bool.and_eq_true] at h2
      exact diffL_keyD h2.1 h2.2
  obtain ⟨DL, hDL⟩ : ∃ DL, diffL es fs = DL := ⟨_, rfl⟩
  obtain ⟨cd, hcd⟩ : ∃ cd, codeD es fs = cd := ⟨_, rfl⟩
  rw [hDL] at hlen hkey
  have HE : Hid (∀ u, Below w.heap.size w u → IsE u (fun b => b < B) es al ca ∧ IsE u (fun b => b < B) fs bl cb ∧ CsE u B es al V1 ∧ CsE u B fs bl V2) := hide (fun u hu => ⟨h.later (hu.mono hB), h'.later (hu.mono hB), hV1.later (hu.mono hB), hV2.later (hu.mono hB)⟩)
  have CS := hide (shown_any w)
  have HN := hide (And.intro hn (And.intro hm hB))
  have HLK := hide (And.intro hlen hkey)
  have HBB := hide (And.intro hb1 hb2)
  have CD : Hid (∀ u (x1 x2 : Option Addr) (c1 c2 C : Nat), IsE u (fun b => b < C) es x1 c1 → IsE u (fun b => b < C) fs x2 c2 → C ≤ u.heap.size → Calls Try.prog 8 #[.slice x1 n c1, .slice x2 m c2] u fun e w' => ∃ sv cs, e = .returned (.tuple #[sv, .int .i64 cd]) ∧ ChO w' u.heap.size sv cs ∧ cs.map chOf = DL ∧ Below u.heap.size u w') := hide (fun u x1 x2 c1 c2 C i1 i2 hC => by
    have := diffE_any es fs x1 x2 n c1 m c2 C u hn hm i1 i2 hC
    rw [hcd, hDL] at this
    exact this)
  have CR : Hid (∀ u, Below w.heap.size w u → Calls Try.prog 9 #[.slice al n ca, .slice bl m cb] u fun e w' => ∃ sv cs, e = .returned (.tuple #[sv, .int .i64 cd]) ∧ ChO w' u.heap.size sv cs ∧ cs.map chOf = DL ∧ Below u.heap.size u w') := hide (fun u hu => by
    have := diffR_any es fs al bl n ca m cb B u hn hm (h.later (hu.mono hB)) (h'.later (hu.mono hB)) (Nat.le_trans hB hu.size)
    rw [hcd, hDL] at this
    exact this)
  have HM : Hid (IsE w (fun b => b < B) es al ca ∧ IsE w (fun b => b < B) fs bl cb) := hide ⟨h, h'⟩
  clear h h' hn hm hB hV1 hV2 hlen hkey hDL hcd hb1 hb2
  go_enter Try.func3, Try.ntmps3
  go_wp2_with fail
  refine (unhide CS).mono ?_
  rintro e u1 ⟨rfl, d1⟩
  have D1 := hide d1
  have C1 := hide (lentE_any es V1 al n ca B u1 (unhide HN).1 (unhide HE u1 d1).2.2.1 (Nat.le_trans (unhide HN).2.2 d1.size) (unhide HBB).1)
  clear d1 CS
  go_wp2_with fail
  refine (unhide C1).mono ?_
  rintro e u2 ⟨be1, rfl, ⟨R1, L1⟩, d2⟩
  have D2 := hide ((unhide D1).trans (d2.mono (unhide D1).size))
  have HL1 := hide (And.intro L1 (unhide D1).size)
  have C2 := hide (lentE_any fs V2 bl m cb B u2 (unhide HN).2.1 (unhide HE u2 (unhide D2)).2.2.2 (Nat.le_trans (unhide HN).2.2 (unhide D2).size) (unhide HBB).2)
  clear d2 C1 L1 D1
  go_wp2_with fail
  refine (unhide C2).mono ?_
  rintro e u3 ⟨be2, rfl, ⟨R2, L2⟩, d3⟩
  have D3 := hide ((unhide D2).trans (d3.mono (unhide D2).size))
  have HL13 : Hid (LentE u3 u1.heap.size u2.heap.size es V1 be1 R1 ∧ w.heap.size ≤ u1.heap.size ∧ u2.heap.size ≤ u3.heap.size) := hide ⟨(unhide HL1).1.to (fun b _ hb => d3.block b hb) d3.size, (unhide HL1).2, d3.size⟩
  have HL23 : Hid (LentE u3 u2.heap.size u3.heap.size fs V2 be2 R2 ∧ w.heap.size ≤ u2.heap.size) := hide ⟨L2, (unhide D2).size⟩
  have C3 := hide (unhide CD u3 (some ⟨be1, 0, none⟩) (some ⟨be2, 0, none⟩) (n + 2) (m + 2) u3.heap.size
    (by have hi := (unhide HL13).1.isE (C := u3.heap.size) (unhide HE u3 (unhide D3)).2.2.1 (unhide HM).1 (unhide HL13).2.2 (Nat.le_trans (unhide HN).2.2 (unhide D3).size); rw [(unhide HN).1] at hi; exact hi)
    (by have hi := (unhide HL23).1.isE (C := u3.heap.size) (unhide HE u3 (unhide D3)).2.2.2 (unhide HM).2 (Nat.le_refl _) (Nat.le_trans (unhide HN).2.2 (unhide D3).size); rw [(unhide HN).2.1] at hi; exact hi) (Nat.le_refl _))
  clear d3 C2 L2 D2 HL1 CD
  go_wp2_with fail
  refine (unhide C3).mono ?_
  rintro e u4 ⟨sv1, cs1, rfl, o1, e1, d4⟩
  have D4 := hide ((unhide D3).trans (d4.mono (unhide D3).size))
  have HO1 := hide (And.intro o1 (And.intro e1 d4))
  have C4 := hide (unhide CR u4 (unhide D4))
  have hs1 : sv1.oneCell' = true := by rcases o1.row.2 with ⟨rfl, _⟩ | ⟨b, cap, cur, rfl, _⟩ <;> rfl
  clear d4 C3 o1 e1 CR
  go_wp2_with fail
  refine (unhide C4).mono ?_
  rintro e u5 ⟨sv2, cs2, rfl, o2, e2, d5⟩
  have D5 := hide ((unhide D4).trans (d5.mono (unhide D4).size))
  have HO5 : Hid (ChO u5 u3.heap.size sv1 cs1 ∧ cs1.map chOf = DL ∧ Below u3.heap.size u3 u5) := hide ⟨(unhide HO1).1.later d5, (unhide HO1).2.1, (unhide HO1).2.2.trans (d5.mono (unhide HO1).2.2.size)⟩
  have hl1 : cs1.length ≤ 1000 := by have hh := (unhide HLK).1; rw [← (unhide HO5).2.1, List.length_map] at hh; omega
  have hl2 : cs2.length ≤ 1000 := by have hh := (unhide HLK).1; rw [← e2, List.length_map] at hh; omega
  obtain ⟨x1, k1, hx1, hH1⟩ := (unhide HO5).1.isH (fun p hp => (unhide HLK).2 (chOf p) (by rw [← (unhide HO5).2.1]; exact List.mem_map_of_mem hp)) hl1
  obtain ⟨x2, k2, hx2, hH2⟩ := o2.isH (fun p hp => (unhide HLK).2 (chOf p) (by rw [← e2]; exact List.mem_map_of_mem hp)) hl2
  have hd1 : cs1.length = DL.length := by rw [← (unhide HO5).2.1, List.length_map]
  have hd2 : cs2.length = DL.length := by rw [← e2, List.length_map]
  rw [(unhide HO5).2.1] at hH1
  rw [e2] at hH2
  rw [hd1] at hx1
  rw [hd2] at hx2
  obtain ⟨dl, hdl⟩ : ∃ dl, DL.length = dl := ⟨_, rfl⟩
  rw [hdl] at hx1 hx2 hd1
  subst hx1 hx2
  have C5 := hide (changes_same DL x1 x2 dl k1 k2 u5.heap.size u5 hdl hH1 hH2 (Nat.le_refl _))
  have HD1 : Hid (cs1.length = dl) := hide hd1
  clear d5 C4 o2 e2 HO1 hl1 hl2 hH1 hH2 hd1 hd2 hs1 hdl
  go_wp2_with fail
  refine (unhide C5).mono ?_
  rintro e u6 ⟨rfl, d6⟩
  have HO6 : Hid (ChO u6 u3.heap.size (.slice x1 dl k1) cs1 ∧ Below u3.heap.size u3 u6) := hide ⟨(unhide HO5).1.later d6, (unhide HO5).2.2.trans (d6.mono (unhide HO5).2.2.size)⟩
  obtain ⟨mm, hm1, hm2⟩ := (unhide HO6).1.rg
  have HMM : Hid ((∀ i, mm i ≤ mm (i + 1)) ∧ ∀ (i : Nat) (p : Co), cs1[i]? = some p → IsQ u6 (fun b => ((u3.heap.size ≤ b ∧ b < u6.heap.size ∧ some b ≠ (Value.slice x1 dl k1).ownBlock) ∧ isC u6 b) ∧ mm i ≤ b ∧ b < mm (i + 1)) p.2.2 (.agg (th5 p.2.1).toArray)) := hide ⟨hm1, hm2⟩
  have HDL : Hid (dl ≤ 256) := hide (by have h1 := (unhide HLK).1; have h2 := (unhide HO5).2.1; have h3 := unhide HD1; rw [← h2, List.length_map] at h1; omega)
  have hdl256 := unhide HDL
  clear d6 C5 hm1 hm2
  go_wp2_with fail
  go_loopw [13] (fun x wr => ∃ (i : Nat), x = .int .i64 (i : Int) ∧ Hid (i ≤ dl ∧ SpC u6 u3.heap.size (Value.slice x1 dl k1).ownBlock (mm i) wr)) (fun x _ => dl - (intOf x).toNat)
  case atStart => exact ⟨0, rfl, hide ⟨by omega, SpC.refl _ _ _ _⟩⟩
  case round =>
    obtain ⟨i, rfl, HX⟩ := hrel
    by_cases hlt : i < dl
    · have j1 : (i : Int) < (dl : Int) := by omega
      obtain ⟨⟨⟨s, gg⟩, ⟨t0, t1, t2, t3, t4, t5, t6, t7, t8⟩, v⟩, hp⟩ : ∃ p, cs1[i]? = some p := ⟨_, List.getElem?_eq_getElem (by have := unhide HD1; omega)⟩
      obtain ⟨g, cap, hsl, hg1, hg2, hc⟩ := (unhide HO6).1.cellsAt i _ hp
      obtain ⟨hx1, hdl1, hk1⟩ := Value.slice.inj hsl
      obtain ⟨a, ha⟩ : ∃ a, (⟨g, 0, none⟩ : Addr) = a := ⟨_, rfl⟩
      have hab : a.block = g := by rw [← ha]
      have how : (Value.slice x1 dl k1).ownBlock = some g := by rw [hx1]; rfl
      rw [ha] at hx1
      have hrow : wr.heap[g]? = u6.heap[g]? := (unhide HX).2.block g hg2 (fun e => e.2.1 how.symm)
      subst hx1
      have hcw : ∀ j v', (Value.string s :: Value.bool gg :: th5 (t0, t1, t2, t3, t4, t5, t6, t7, t8))[j]? = some v' → wr.cell? ((a.add (i * 7)).add j) = some v' := fun j v' hv => by
        rw [ha] at hc
        have e : wr.cell? ((a.add (i * 7)).add j) = u6.cell? ((a.add (i * 7)).add j) := World.cell?_of_block (by rw [block_add, block_add, hab]; exact hrow)
        rw [e]
        exact hc j v' hv
      have c0 : wr.cell? (a.add (i * 7)) = some (.string s) := hcw 0 _ rfl
      have c1 : wr.cell? ⟨(a.add (i * 7)).block, (a.add (i * 7)).off + 1, none⟩ = some (.bool gg) := hcw 1 _ rfl
      have c2 : wr.cell? ⟨(a.add (i * 7)).block, (a.add (i * 7)).off + 2, none⟩ = some (.int .i64 t0) := hcw 2 _ rfl
      have c3 : wr.cell? ⟨(a.add (i * 7)).block, (a.add (i * 7)).off + 3, none⟩ = some (.int .i64 t1) := hcw 3 _ rfl
      have c4 : wr.cell? ⟨(a.add (i * 7)).block, (a.add (i * 7)).off + 4, none⟩ = some (.string t2) := hcw 4 _ rfl
      have c5 : wr.cell? ⟨(a.add (i * 7)).block, (a.add (i * 7)).off + 5, none⟩ = some (.slice t3 t4 t5) := hcw 5 _ rfl
      have c6 : wr.cell? ⟨(a.add (i * 7)).block, (a.add (i * 7)).off + 6, none⟩ = some (.slice t6 t7 t8) := hcw 6 _ rfl
      have hq := (unhide HMM).2 i _ hp
      have CP := hide (spoil_any (dep v) (.agg #[.int .i64 t0, .int .i64 t1, .string t2, .slice t3 t4 t5, .slice t6 t7 t8]) (fun b => ((u3.heap.size ≤ b ∧ b < u6.heap.size ∧ some b ≠ (Value.slice (some a) dl k1).ownBlock) ∧ isC u6 b) ∧ mm i ≤ b ∧ b < mm (i + 1)) wr (Ty.to (fun b hb => (unhide HX).2.block b hb.1.1.2.1 (fun e => by have := e.2.2; have := hb.2.1; omega)) (fun b hb => hb) _ _ hq.2) (fun b hb => Nat.lt_of_lt_of_le hb.1.1.2.1 (unhide HX).2.size))
      have HI1 : Hid (i + 1 ≤ dl) := hide (by omega)
      clear hc hcw hrow hq hsl hp how hab ha hdl1 hk1 hg1 hg2
      go_wp2_with fail
      refine (unhide CP).mono ?_
      rintro e w' ⟨rfl, hw⟩
      have HX2 : Hid (i + 1 ≤ dl ∧ SpC u6 u3.heap.size (Value.slice (some a) dl k1).ownBlock (mm (i + 1)) w') := hide ⟨unhide HI1, (unhide HX).2.next hw ((unhide HMM).1 i) (fun b hb => ⟨hb.1.1.1, hb.1.1.2.2, hb.2.2⟩)⟩
      clear hw CP
      go_wp2_with fail
      go_roundw
      case rel => exact ⟨i + 1, by go_num, HX2⟩
      case measure => have := unhide HI1; simp [intOf]; omega
    · have j1 : ¬ (i : Int) < (dl : Int) := by omega
      have hSp := (unhide HX).2
      have hbl : ∀ b, b < u3.heap.size → wr.heap[b]? = u3.heap[b]? := fun b hb => (hSp.block b (Nat.lt_of_lt_of_le hb (unhide HO6).2.size) (fun e => by have := e.1; omega)).trans ((unhide HO6).2.block b hb)
      have hsz : u3.heap.size ≤ wr.heap.size := Nat.le_trans (unhide HO6).2.size hSp.size
      have HBW : Hid (Below w.heap.size w wr) := hide (hSp.below ((unhide D3).trans ((unhide HO6).2.mono (unhide D3).size)) (unhide D3).size)
      have C7 := hide (stillE_any es V1 al n ca B u1.heap.size u2.heap.size be1 R1 wr (unhide HN).1 (by have := (unhide HBB).1; omega) (unhide HE wr (unhide HBW)).2.2.1 (Nat.le_trans (unhide HN).2.2 (unhide HBW).size) ((unhide HL13).1.to (fun b _ hb => hbl b (Nat.lt_of_lt_of_le hb (unhide HL13).2.2)) (Nat.le_trans (unhide HL13).2.2 hsz)))
      have C8 : Hid (∀ u, Below wr.heap.size wr u → Calls Try.prog 12 #[.slice (some ⟨be2, 0, none⟩) m (m + 2), .slice bl m cb] u fun e w' => e = .returned (.bool true) ∧ Below u.heap.size u w') := hide (fun u hu => by
        have hwu := (unhide HBW).trans (hu.mono (unhide HBW).size)
        exact stillE_any fs V2 bl m cb B u2.heap.size u3.heap.size be2 R2 u (unhide HN).2.1 (by have := (unhide HBB).2; omega) (unhide HE u hwu).2.2.2 (Nat.le_trans (unhide HN).2.2 hwu.size) ((unhide HL23).1.to (fun b _ hb => (hu.block b (Nat.lt_of_lt_of_le hb hsz)).trans (hbl b hb)) (Nat.le_trans hsz hu.size)))
      clear hSp hbl hsz HX
      go_wp2_with fail
      refine (unhide C7).mono ?_
      rintro e u7 ⟨rfl, d7⟩
      have D7 := hide ((unhide HBW).trans (d7.mono (unhide HBW).size))
      have C9 := hide (unhide C8 u7 d7)
      clear d7 C7 C8
      go_wp2_with fail
      refine (unhide C9).mono ?_
      rintro e u8 ⟨rfl, d8⟩
      have D8 := hide ((unhide D7).trans (d8.mono (unhide D7).size))
      clear d8 C9
      go_wp2_with fail
      go_ret
      exact ⟨by simp, unhide D8⟩
end Go.Proofs.Ytjhnbopejnpbeaa
