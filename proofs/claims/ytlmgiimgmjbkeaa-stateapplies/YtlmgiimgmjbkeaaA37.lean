/-
  Entries that came out; the walk of own; conditions: the form's own reach.
-/
import Derived.Test.YtlmgiimgmjbkeaaA32
import Derived.Test.YtlmgiimgmjbkeaaA33
set_option linter.unusedVariables false
set_option linter.unusedSimpArgs false
namespace Go.Proofs.Ytlmgiimgmjbkeaa
open Go.RowKit Go.Shelf
set_option linter.unusedVariables false
set_option linter.unusedSimpArgs false

/-- an entry as it came out -/
abbrev Eo := ByteArray × (Th5 × Vl)
def cellsN (es : List Eo) : List Value := es.flatMap (fun p => .string p.1 :: th5 p.2.1)

/-- entries that came out, each its owner's, all from block lo on -/
structure EnN (w : World) (lo : Nat) (sv : Value) (es : List Eo) : Prop where
  row : w.ownsRow lo 48 6 sv es.length (cellsN es)
  el : ∀ p ∈ es, IsQ w (fun b => (lo ≤ b ∧ b < w.heap.size ∧ some b ≠ sv.ownBlock) ∧ isC w b) p.2.2 (.agg (th5 p.2.1).toArray)
  rg : ∃ m : Nat → Nat, (∀ i, m i ≤ m (i + 1)) ∧ ∀ (i : Nat) (p : Eo), es[i]? = some p → IsQ w (fun b => ((lo ≤ b ∧ b < w.heap.size ∧ some b ≠ sv.ownBlock) ∧ isC w b) ∧ m i ≤ b ∧ b < m (i + 1)) p.2.2 (.agg (th5 p.2.1).toArray)

theorem EnN.to {w w' : World} {lo lo' : Nat} {sv : Value} {es : List Eo} (h : EnN w lo sv es) (hl : lo' ≤ lo) (hs : w.heap.size ≤ w'.heap.size) (hw : ∀ b, lo ≤ b → b < w.heap.size → isC w b → w'.heap[b]? = w.heap[b]?) : EnN w' lo' sv es := by
  have key : ∀ b, ((lo ≤ b ∧ b < w.heap.size ∧ some b ≠ sv.ownBlock) ∧ isC w b) → ((lo' ≤ b ∧ b < w'.heap.size ∧ some b ≠ sv.ownBlock) ∧ isC w' b) := fun b hb => by
    refine ⟨⟨by have := hb.1.1; omega, by have := hb.1.2.1; omega, hb.1.2.2⟩, ?_⟩
    obtain ⟨c, T, f, e⟩ := hb.2
    exact ⟨c, T, f, (hw b hb.1.1 hb.1.2.1 hb.2).trans e⟩
  obtain ⟨m, hm, hr⟩ := h.rg
  refine ⟨own_low (row_to h.row (fun b hb => hw b (h.row.lt b hb).1 (h.row.lt b hb).2 ?_)) hl, fun p hp => (h.el p hp).to (fun b hb => hw b hb.1.1 hb.1.2.1 hb.2) key, m, hm, fun i p hp => (hr i p hp).to (fun b hb => hw b hb.1.1.1 hb.1.1.2.1 hb.1.2) (fun b hb => ⟨key b hb.1, hb.2⟩)⟩
  obtain ⟨c, hc⟩ := row_ty h.row hb
  exact ⟨_, _, _, hc⟩

theorem EnN.later {w w' : World} {lo : Nat} {sv : Value} {es : List Eo} (h : EnN w lo sv es) (hb : Below w.heap.size w w') : EnN w' lo sv es := h.to (Nat.le_refl _) hb.size (fun b _ hl _ => hb.block b hl)

theorem EnN.nil (w : World) (lo : Nat) : EnN w lo (.slice none 0 0) [] := ⟨World.ownsRow_nil _ _ _ _, (fun p hp => by cases hp), fun i => i, fun i => Nat.le_succ i, fun i p hp => by cases hp⟩

/-- one more -/
theorem EnN.push {w w4 w5 : World} {lo g cap n : Nat} {sv : Value} {es : List Eo} {k : ByteArray} {c : Th5} {y : Vl} (h : EnN w lo sv es) (hn : es.length = n) (hb : Below w.heap.size w w4) (hlo : lo ≤ w.heap.size) (hq : IsQ w4 (fun b => w.heap.size ≤ b ∧ b < w4.heap.size) y (.agg (th5 c).toArray)) (ho : w5.ownsRow lo 48 6 (.slice (some ⟨g, 0, none⟩) (n + 1) cap) (n + 1) (cellsN es ++ (.string k :: th5 c))) (hg : w4.grownBy w5 sv.ownBlock) (hat : sv.ownBlock = some g ∨ g = w4.heap.size) :
    EnN w5 lo (.slice (some ⟨g, 0, none⟩) (n + 1) cap) (es ++ [(k, (c, y))]) := by
  have hl : (es ++ [(k, (c, y))]).length = n + 1 := by simp [hn]
  have hne : ∀ b, b < w4.heap.size → some b ≠ sv.ownBlock → some b ≠ (Value.slice (some ⟨g, 0, none⟩) (n + 1) cap).ownBlock := fun b h1 h2 e => by
    have e2 : b = g := by
      have : (Value.slice (some ⟨g, 0, none⟩) (n + 1) cap).ownBlock = some g := rfl
      rw [this] at e
      exact Option.some.inj e
    rcases hat with hat | hat
    · rw [e2] at h2
      exact h2 hat.symm
    · omega
  have hnb : ∀ b, w.heap.size ≤ b → some b ≠ sv.ownBlock := fun b h1 e => by
    have := (h.row.lt b e.symm).2
    omega
  have zb := hb.size
  have old : ∀ (P : Nat → Prop) (p : Eo), IsQ w4 (fun b => ((lo ≤ b ∧ b < w4.heap.size ∧ some b ≠ sv.ownBlock) ∧ isC w4 b) ∧ P b) p.2.2 (.agg (th5 p.2.1).toArray) → IsQ w5 (fun b => ((lo ≤ b ∧ b < w5.heap.size ∧ some b ≠ (Value.slice (some ⟨g, 0, none⟩) (n + 1) cap).ownBlock) ∧ isC w5 b) ∧ P b) p.2.2 (.agg (th5 p.2.1).toArray) := fun P p h4 => by
    refine h4.to (fun b hb' => hg.block b hb'.1.1.2.1 hb'.1.1.2.2) (fun b hb' => ⟨⟨⟨hb'.1.1.1, Nat.lt_of_lt_of_le hb'.1.1.2.1 hg.size, hne b hb'.1.1.2.1 hb'.1.1.2.2⟩, ?_⟩, hb'.2⟩)
    obtain ⟨c', T, f, e⟩ := hb'.1.2
    exact ⟨c', T, f, (hg.block b hb'.1.1.2.1 hb'.1.1.2.2).trans e⟩
  have new : IsQ w5 (fun b => ((lo ≤ b ∧ b < w5.heap.size ∧ some b ≠ (Value.slice (some ⟨g, 0, none⟩) (n + 1) cap).ownBlock) ∧ isC w5 b) ∧ w.heap.size ≤ b ∧ b < w4.heap.size) y (.agg (th5 c).toArray) := by
    refine hq.isC.to (fun b hb' => hg.block b hb'.1.2 (hnb b hb'.1.1)) (fun b hb' => ⟨⟨⟨Nat.le_trans hlo hb'.1.1, Nat.lt_of_lt_of_le hb'.1.2 hg.size, hne b hb'.1.2 (hnb b hb'.1.1)⟩, ?_⟩, hb'.1⟩)
    obtain ⟨c', T, f, e⟩ := hb'.2
    exact ⟨c', T, f, (hg.block b hb'.1.2 (hnb b hb'.1.1)).trans e⟩
  have h4 := h.later hb
  refine ⟨?_, fun p hp => ?_, ?_⟩
  · rw [hl]
    have e : cellsN (es ++ [(k, (c, y))]) = cellsN es ++ (.string k :: th5 c) := by simp [cellsN]
    rw [e]
    exact ho
  · rcases List.mem_append.1 hp with hp | hp
    · exact (old (fun _ => True) p ((h4.el p hp).weak (fun b hb => ⟨hb, trivial⟩))).weak (fun b hb => hb.1)
    · rw [List.mem_singleton] at hp
      subst hp
      exact new.weak (fun b hb => hb.1)
  · obtain ⟨m, hm, hr⟩ := h.rg
    refine ⟨fun i => if i ≤ n then min (m i) w.heap.size else w4.heap.size, fun i => ?_, fun i p hp => ?_⟩
    · dsimp only
      have := hm i
      split <;> split <;> omega
    · have hle : i ≤ n := by
        have := (List.getElem?_eq_some_iff.1 hp).1
        rw [hl] at this
        omega
      dsimp only
      rw [if_pos hle]
      by_cases hi : i < n
      · rw [if_pos (show i + 1 ≤ n by omega)]
        rw [List.getElem?_append_left (by omega)] at hp
        have h5 := (hr i p hp).to (w' := w4) (Q := fun b => ((lo ≤ b ∧ b < w4.heap.size ∧ some b ≠ sv.ownBlock) ∧ isC w4 b) ∧ (min (m i) w.heap.size ≤ b ∧ b < min (m (i + 1)) w.heap.size)) (fun b hb' => hb.block b hb'.1.1.2.1) (fun b hb' => by
          refine ⟨⟨⟨hb'.1.1.1, by have := hb'.1.1.2.1; omega, hb'.1.1.2.2⟩, ?_⟩, by have := hb'.2.1; omega, by have := hb'.2.2; have := hb'.1.1.2.1; omega⟩
          obtain ⟨c', T, f, e⟩ := hb'.1.2
          exact ⟨c', T, f, (hb.block b hb'.1.1.2.1).trans e⟩)
        exact old _ p h5
      · have e : i = n := by omega
        subst e
        rw [if_neg (by omega)]
        rw [List.getElem?_append_right (by omega), hn, Nat.sub_self] at hp
        cases hp
        exact new.weak (fun b hb => ⟨hb.1, by have := hb.2.1; omega, hb.2.2⟩)

theorem infoEnN : (Try.prog.info? 48).map (fun i => (i.zero, i.size, i.bytes)) = some (some (.agg #[.string ⟨#[]⟩, .int .i64 0, .int .i64 0, .string ⟨#[]⟩, .slice none 0 0, .slice none 0 0]), 6, 96) := by kernel_rfl

set_option maxRecDepth 100000 in
set_option maxHeartbeats 4000000 in
theorem own_any (es : List En) (al : Option Addr) (n cl B : Nat) (w : World) (hn : es.length = n) (h : IsE w (fun b => b < B) es al cl) (hB : B ≤ w.heap.size) (hr : ∀ e ∈ es, entB e = true) (hn128 : n ≤ 128) :
    Calls Try.prog 36 #[.slice al n cl] w fun e w' => ∃ sv xs, e = .returned sv ∧ EnN w' w.heap.size sv xs ∧ xs.map (fun p => (p.1, p.2.2)) = es ∧ Below w.heap.size w w' := by
  have HV : Hid (∀ u, Below w.heap.size w u → IsE u (fun b => b < B) es al cl) := hide (fun u hu => h.later (hu.mono hB))
  have HN := hide hn
  have HB := hide hB
  have HR := hide hr
  clear h hn hB hr
  go_enter Try.func36, Try.ntmps36
  go_wp2_with fail
  go_loopw [3, 8] (fun y x wr => ∃ (i : Nat) (so : Option Addr) (q sc : Nat), y = .slice so q sc ∧ x = .int .i64 (i : Int) ∧ Hid (i ≤ n) ∧ Hid (∃ xs, EnN wr w.heap.size (.slice so q sc) xs ∧ xs.length = q ∧ q = i ∧ xs.map (fun p => (p.1, p.2.2)) = es.take i ∧ Below w.heap.size w wr)) (fun _ x _ => n - (intOf x).toNat)
  case atStart => exact ⟨0, none, 0, 0, rfl, rfl, hide (by omega), hide ⟨[], EnN.nil _ _, rfl, rfl, rfl, Below.refl _ _⟩⟩
  case round =>
    obtain ⟨i, so, q, sc, rfl, rfl, HI1, HX⟩ := hrel
    by_cases hlt : i < n
    · have j1 : (i : Int) < (n : Int) := by omega
      have HI2 : Hid (i + 1 ≤ n) := hide (by omega)
      obtain ⟨xs, h2, hq, hqi, h3, h5⟩ := unhide HX
      obtain ⟨⟨k, v⟩, he⟩ : ∃ e, es[i]? = some e := ⟨_, List.getElem?_eq_getElem (by have := unhide HN; omega)⟩
      have hent := unhide HR _ (List.mem_of_getElem? he)
      have hrt : 1 ≤ k.size ∧ k.size ≤ 32 ∧ rightB v = true := by unfold entB at hent; simp only [Bool.and_eq_true, decide_eq_true_eq] at hent; exact ⟨hent.1.1, hent.1.2, hent.2⟩
      obtain ⟨a, x0, x1, x2, al', ak', ll', m', cl', ck', rfl, _, _, hc, hp⟩ := (unhide HV wr h5).elem i _ he
      dsimp only at hc hp
      have c0 : wr.cell? (a.add (i * 6)) = some (.string k) := hc 0 _ rfl
      have c1 : wr.cell? ⟨(a.add (i * 6)).block, (a.add (i * 6)).off + 1, none⟩ = some (.int .i64 x0) := hc 1 _ rfl
      have c2 : wr.cell? ⟨(a.add (i * 6)).block, (a.add (i * 6)).off + 2, none⟩ = some (.int .i64 x1) := hc 2 _ rfl
      have c3 : wr.cell? ⟨(a.add (i * 6)).block, (a.add (i * 6)).off + 3, none⟩ = some (.string x2) := hc 3 _ rfl
      have c4 : wr.cell? ⟨(a.add (i * 6)).block, (a.add (i * 6)).off + 4, none⟩ = some (.slice al' ll' cl') := hc 4 _ rfl
      have c5 : wr.cell? ⟨(a.add (i * 6)).block, (a.add (i * 6)).off + 5, none⟩ = some (.slice ak' m' ck') := hc 5 _ rfl
      obtain ⟨bu, hbu⟩ : ∃ bu, wr.heap.size = bu := ⟨_, rfl⟩
      obtain ⟨W, hW⟩ : ∃ W, wr.alloc (.cells #[.string k, .int .i64 x0, .int .i64 x1, .string x2, .slice al' ll' cl', .slice ak' m' ck'] 48) = W := ⟨_, rfl⟩
      have n1 : W.heap[bu]? = some (.cells #[.string k, .int .i64 x0, .int .i64 x1, .string x2, .slice al' ll' cl', .slice ak' m' ck'] 48 (0, 0)) := by rw [← hW, ← hbu]; exact heap_alloc_new wr _
      have X1 : Below wr.heap.size wr W := by rw [← hW]; exact (Below.refl _ _).alloc (Nat.le_refl _) _
      have h2W := h2.later X1
      have hbw : bu < W.heap.size := (Array.getElem?_eq_some_iff.1 n1).1
      have hDb : Below w.heap.size w W := h5.trans (X1.mono h5.size)
      have HCl : Hid (∀ u, Calls Try.prog 23 #[.string k] u fun e w' => e = .returned (.string k) ∧ Below u.heap.size u w') := hide (fun u => str_clone k u (by omega))
      have HCo : Hid (∀ u, Below W.heap.size W u → Calls Try.prog 25 #[.agg #[.int .i64 x0, .int .i64 x1, .string x2, .slice al' ll' cl', .slice ak' m' ck']] u fun e w' => ∃ d : Th5, e = .returned (.agg (th5 d).toArray) ∧ Below u.heap.size u w' ∧ IsQ w' (fun b => u.heap.size ≤ b ∧ b < w'.heap.size) v (.agg (th5 d).toArray)) := hide (fun u hu => by
        have hbr : B ≤ wr.heap.size := Nat.le_trans (unhide HB) h5.size
        refine (copy_any v _ B u (IsV.mono (hu.mono (Nat.le_trans hbr X1.size)) (IsV.mono (X1.mono hbr) hp)) (Nat.le_trans hbr (Nat.le_trans X1.size hu.size))).mono ?_
        rintro e w' ⟨x', rfl, b, qq, -⟩
        have hq := qq hrt.2.2
        obtain ⟨d, rfl⟩ := isP_th5 hq.1
        exact ⟨d, rfl, b, hq⟩)
      have HGO : Hid (bu < W.heap.size ∧ some bu ≠ (Value.slice so q sc).ownBlock) := hide ⟨hbw, fun e => by have := (h2.row.lt bu e.symm).2; omega⟩
      obtain ⟨CS, hCS⟩ : ∃ CS, cellsN xs = CS := ⟨_, rfl⟩
      obtain ⟨lo, hlo⟩ : ∃ lo, w.heap.size = lo := ⟨_, rfl⟩
      have HOW : Hid (∀ u, Below W.heap.size W u → u.ownsRow lo 48 6 (.slice so q sc) q CS) := hide (fun u hu => by
        have := (h2W.later hu).row
        rw [hq, hCS, hlo] at this
        exact this)
      have hloW : lo ≤ W.heap.size := by have := hDb.size; omega
      obtain ⟨iv, hiv, hz0, hz1, hz2⟩ := info_parts infoEnN
      have HI := hide (And.intro hiv (And.intro hz0 (And.intro hz1 hz2)))
      have HS0 : Hid (W.drew.cell? ⟨bu, 0, none⟩ = some (.string k) ∧ W.drew.cell? ⟨bu, 1, none⟩ = some (.int .i64 x0) ∧ W.drew.cell? ⟨bu, 2, none⟩ = some (.int .i64 x1) ∧ W.drew.cell? ⟨bu, 3, none⟩ = some (.string x2) ∧ W.drew.cell? ⟨bu, 4, none⟩ = some (.slice al' ll' cl') ∧ W.drew.cell? ⟨bu, 5, none⟩ = some (.slice ak' m' ck')) := hide ⟨by rw [cell_of_row _ bu 0 _ _ (0, 0) (show W.drew.heap[bu]? = _ from n1)]; rfl, by rw [cell_of_row _ bu 1 _ _ (0, 0) (show W.drew.heap[bu]? = _ from n1)]; rfl, by rw [cell_of_row _ bu 2 _ _ (0, 0) (show W.drew.heap[bu]? = _ from n1)]; rfl, by rw [cell_of_row _ bu 3 _ _ (0, 0) (show W.drew.heap[bu]? = _ from n1)]; rfl, by rw [cell_of_row _ bu 4 _ _ (0, 0) (show W.drew.heap[bu]? = _ from n1)]; rfl, by rw [cell_of_row _ bu 5 _ _ (0, 0) (show W.drew.heap[bu]? = _ from n1)]; rfl⟩
      have HEND : Hid (∀ (W4 W5 : World) (g5 cap5 : Nat) (c : Th5), Below W.heap.size W W4 → IsQ W4 (fun b => W.heap.size ≤ b ∧ b < W4.heap.size) v (.agg (th5 c).toArray) → W5.ownsRow lo 48 6 (.slice (some ⟨g5, 0, none⟩) (q + 1) cap5) (q + 1) (CS ++ (.string k :: th5 c)) → W4.grownBy W5 (Value.slice so q sc).ownBlock → ((Value.slice so q sc).ownBlock = some g5 ∨ g5 = W4.heap.size) → ∃ xs, EnN W5 lo (.slice (some ⟨g5, 0, none⟩) (q + 1) cap5) xs ∧ xs.length = q + 1 ∧ q + 1 = i + 1 ∧ xs.map (fun p => (p.1, p.2.2)) = es.take (i + 1) ∧ Below lo w W5) := hide (by
        intro W4 W5 g5 cap5 c b4 q4 o5 g5' a5
        rw [← hlo, ← hCS] at o5
        rw [← hlo]
        have hpush := h2W.push (k := k) (c := c) (y := v) hq b4 hDb.size q4 o5 g5' a5
        refine ⟨_, hpush, by simp [hq], by omega, ?_, hDb.trans (((b4.mono hDb.size)).trans ?_)⟩
        · rw [List.map_append, h3, List.take_add_one, he]
          rfl
        · exact (Below.refl _ _).grown g5' (by have := hDb.size; have := b4.size; omega) (fun b hb => (h2.row.lt b hb).1))
      have HQ128 : Hid (q ≤ 128) := hide (by omega)
      have hq128 : q ≤ 128 := unhide HQ128
      clear h2 h2W h3 h5 n1 X1 hbw hDb hp hc hrt hent he hq hqi hCS hiv hz0 hz1 hz2 HX
      go_upto_region 5 with fail
      clear hW hbu c0 c1 c2 c3 c4 c5
      refine till_begin (S := fun w' => w'.cell? ⟨bu, 0, none⟩ = some (.string k) ∧ w'.cell? ⟨bu, 1, none⟩ = some (.int .i64 x0) ∧ w'.cell? ⟨bu, 2, none⟩ = some (.int .i64 x1) ∧ w'.cell? ⟨bu, 3, none⟩ = some (.string x2) ∧ w'.cell? ⟨bu, 4, none⟩ = some (.slice al' ll' cl') ∧ w'.cell? ⟨bu, 5, none⟩ = some (.slice ak' m' ck')) 10 (by kernel_rfl) ?_
      refine till_take 0 (v := .slice so q sc) (some 12) rfl rfl rfl (by kernel_rfl) (by kernel_rfl) (by kernel_rfl) (by kernel_rfl) (fun _ _ _ h => h) (Or.inl ⟨by rfl, fun u hu => by obtain ⟨b0, b1, b2, b3, b4, b5⟩ := hu; go_simp⟩) (unhide HS0) ?_
      try simp only [Act.put, List.setIfInBounds_toArray, List.set_cons_zero, List.set_cons_succ]
      refine till_take 1 (v := .pointer (some ⟨bu, 0, none⟩)) (some 13) rfl rfl rfl (by kernel_rfl) (by kernel_rfl) (by kernel_rfl) (by kernel_rfl) (fun _ _ _ h => h) (Or.inl ⟨by rfl, fun u hu => by obtain ⟨b0, b1, b2, b3, b4, b5⟩ := hu; go_simp⟩) (unhide HS0) ?_
      try simp only [Act.put, List.setIfInBounds_toArray, List.set_cons_zero, List.set_cons_succ]
      refine till_take 2 (v := .string k) (some 14) rfl rfl rfl (by kernel_rfl) (by kernel_rfl) (by kernel_rfl) (by kernel_rfl) (fun _ _ _ h => h) (Or.inl ⟨by rfl, fun u hu => by obtain ⟨b0, b1, b2, b3, b4, b5⟩ := hu; go_simp⟩) (unhide HS0) ?_
      try simp only [Act.put, List.setIfInBounds_toArray, List.set_cons_zero, List.set_cons_succ]
      refine till_take 4 (v := .pointer (some ⟨bu, 1, none⟩)) (some 16) rfl rfl rfl (by kernel_rfl) (by kernel_rfl) (by kernel_rfl) (by kernel_rfl) (fun _ _ _ h => h) (Or.inl ⟨by rfl, fun u hu => by obtain ⟨b0, b1, b2, b3, b4, b5⟩ := hu; go_simp⟩) (unhide HS0) ?_
      try simp only [Act.put, List.setIfInBounds_toArray, List.set_cons_zero, List.set_cons_succ]
      refine till_take 5 (v := .agg #[.int .i64 x0, .int .i64 x1, .string x2, .slice al' ll' cl', .slice ak' m' ck']) (some 17) rfl rfl rfl (by kernel_rfl) (by kernel_rfl) (by kernel_rfl) (by kernel_rfl) (fun _ _ _ h => h) (Or.inl ⟨by rfl, fun u hu => by obtain ⟨b0, b1, b2, b3, b4, b5⟩ := hu; go_simp⟩) (unhide HS0) ?_
      try simp only [Act.put, List.setIfInBounds_toArray, List.set_cons_zero, List.set_cons_succ]
      refine till_one 3 (by kernel_rfl) rfl (fun K hK => ?_)
      go_simp
      refine (unhide HCl W.drew).mono ?_
      rintro e W2 ⟨rfl, b2⟩
      have X2 : Below W.heap.size W W2 := below_drew_of' b2
      have HS2 : Hid (W2.cell? ⟨bu, 0, none⟩ = some (.string k) ∧ W2.cell? ⟨bu, 1, none⟩ = some (.int .i64 x0) ∧ W2.cell? ⟨bu, 2, none⟩ = some (.int .i64 x1) ∧ W2.cell? ⟨bu, 3, none⟩ = some (.string x2) ∧ W2.cell? ⟨bu, 4, none⟩ = some (.slice al' ll' cl') ∧ W2.cell? ⟨bu, 5, none⟩ = some (.slice ak' m' ck')) := hide ⟨cell_later X2 ((unhide HS0).1), cell_later X2 ((unhide HS0).2.1), cell_later X2 ((unhide HS0).2.2.1), cell_later X2 ((unhide HS0).2.2.2.1), cell_later X2 ((unhide HS0).2.2.2.2.1), cell_later X2 ((unhide HS0).2.2.2.2.2)⟩
      have H2 := hide X2
      clear b2 X2
      go_wp2_with fail
      refine hK.out _ _ (Or.inr (unhide HS2)) ?_
      clear hK K HS0
      try simp only [Act.put, List.setIfInBounds_toArray, List.set_cons_zero, List.set_cons_succ]
      refine till_one 6 (by kernel_rfl) rfl (fun K hK => ?_)
      have CC := hide (unhide HCo W2 (unhide H2))
      go_simp
      refine (unhide CC).mono ?_
      rintro e W3 ⟨⟨d0, d1, d2, d3, d4, d5, d6, d7, d8⟩, rfl, b3, q3⟩
      dsimp only [th5] at q3 ⊢
      have HS3 : Hid (W3.cell? ⟨bu, 0, none⟩ = some (.string k) ∧ W3.cell? ⟨bu, 1, none⟩ = some (.int .i64 x0) ∧ W3.cell? ⟨bu, 2, none⟩ = some (.int .i64 x1) ∧ W3.cell? ⟨bu, 3, none⟩ = some (.string x2) ∧ W3.cell? ⟨bu, 4, none⟩ = some (.slice al' ll' cl') ∧ W3.cell? ⟨bu, 5, none⟩ = some (.slice ak' m' ck')) := hide ⟨cell_later b3 ((unhide HS2).1), cell_later b3 ((unhide HS2).2.1), cell_later b3 ((unhide HS2).2.2.1), cell_later b3 ((unhide HS2).2.2.2.1), cell_later b3 ((unhide HS2).2.2.2.2.1), cell_later b3 ((unhide HS2).2.2.2.2.2)⟩
      have H3 := hide (And.intro ((unhide H2).trans (b3.mono (unhide H2).size)) (q3.weak (Q := fun b => W.heap.size ≤ b ∧ b < W3.heap.size) (fun b hb => ⟨by have := hb.1; have := (unhide H2).size; omega, hb.2⟩)))
      clear b3 q3 CC
      go_wp2_with fail
      refine hK.out _ _ (Or.inr (unhide HS3)) ?_
      clear hK K HS2
      try simp only [Act.put, List.setIfInBounds_toArray, List.set_cons_zero, List.set_cons_succ]
      refine till_one 7 (by kernel_rfl) rfl (fun K hK => ?_)
      obtain ⟨b0, b1, b2, b3, b4, b5⟩ := unhide HS3
      go_simp
      refine hK.out _ _ (Or.inr (unhide HS3)) ?_
      clear hK K b0 b1 b2 b3 b4 b5
      try simp only [Act.put, List.setIfInBounds_toArray, List.set_cons_zero, List.set_cons_succ]
      refine till_one 8 (by kernel_rfl) rfl (fun K hK => ?_)
      go_simp
      obtain ⟨W4, hW4⟩ : ∃ W4, W3.alloc (.cells #[.string k, .int .i64 d0, .int .i64 d1, .string d2, .slice d3 d4 d5, .slice d6 d7 d8] 48) = W4 := ⟨_, rfl⟩
      have X4 : Below W3.heap.size W3 W4 := by rw [← hW4]; exact (Below.refl _ _).alloc (Nat.le_refl _) _
      have at4 : W4.heap[W3.heap.size]? = some (.cells #[.string k, .int .i64 d0, .int .i64 d1, .string d2, .slice d3 d4 d5, .slice d6 d7 d8] 48 (0, 0)) := by rw [← hW4]; exact heap_alloc_new W3 _
      rw [hW4]
      have HS4 : Hid (W4.cell? ⟨bu, 0, none⟩ = some (.string k) ∧ W4.cell? ⟨bu, 1, none⟩ = some (.int .i64 x0) ∧ W4.cell? ⟨bu, 2, none⟩ = some (.int .i64 x1) ∧ W4.cell? ⟨bu, 3, none⟩ = some (.string x2) ∧ W4.cell? ⟨bu, 4, none⟩ = some (.slice al' ll' cl') ∧ W4.cell? ⟨bu, 5, none⟩ = some (.slice ak' m' ck')) := hide ⟨cell_later X4 ((unhide HS3).1), cell_later X4 ((unhide HS3).2.1), cell_later X4 ((unhide HS3).2.2.1), cell_later X4 ((unhide HS3).2.2.2.1), cell_later X4 ((unhide HS3).2.2.2.2.1), cell_later X4 ((unhide HS3).2.2.2.2.2)⟩
      have H4 : Hid (Below W.heap.size W W4 ∧ IsQ W4 (fun b => W.heap.size ≤ b ∧ b < W4.heap.size) v (.agg #[.int .i64 d0, .int .i64 d1, .string d2, .slice d3 d4 d5, .slice d6 d7 d8])) := hide ⟨(unhide H3).1.trans (X4.mono (unhide H3).1.size), ((unhide H3).2.move (fun b hb => X4.block b hb.2)).weak (fun b hb => ⟨hb.1, Nat.lt_of_lt_of_le hb.2 X4.size⟩)⟩
      obtain ⟨h3s, hh3s⟩ : ∃ h3s, W3.heap.size = h3s := ⟨_, rfl⟩
      rw [hh3s] at at4 ⊢
      refine hK.out _ _ (Or.inr (unhide HS4)) ?_
      clear hK K hW4 X4 hh3s HS3 H3 H2
      try simp only [Act.put, List.setIfInBounds_toArray, List.set_cons_zero, List.set_cons_succ]
      refine till_one 9 (by kernel_rfl) rfl (fun K hK => ?_)
      refine step_append_lies _ (by rfl) _ _ 22 (by rfl) lo 48 iv (.agg #[.string ⟨#[]⟩, .int .i64 0, .int .i64 0, .string ⟨#[]⟩, .slice none 0 0, .slice none 0 0]) 6 96 Try.underlying22 (unhide HI).1 (unhide HI).2.1 (unhide HI).2.2.1 (unhide HI).2.2.2 rfl (by omega) (.slice so q sc) q CS (by rfl) (unhide HOW W4 (unhide H4).1) ⟨h3s, 0, none⟩ 1 1 [.string k, .int .i64 d0, .int .i64 d1, .string d2, .slice d3 d4 d5, .slice d6 d7 d8] (by rfl) (by rfl) (World.news_of_block at4) (by simp [Value.oneCell']) (by omega) (by unfold maxLen; omega) (by omega) (Nat.le_trans hloW (unhide H4).1.size) _ rfl ?_
      intro g5 cap5 W5 hown5 hgrow5 hat5 hlt5
      change K (Act.put _ (some 21) _) W5
      have HS5 : Hid (W5.cell? ⟨bu, 0, none⟩ = some (.string k) ∧ W5.cell? ⟨bu, 1, none⟩ = some (.int .i64 x0) ∧ W5.cell? ⟨bu, 2, none⟩ = some (.int .i64 x1) ∧ W5.cell? ⟨bu, 3, none⟩ = some (.string x2) ∧ W5.cell? ⟨bu, 4, none⟩ = some (.slice al' ll' cl') ∧ W5.cell? ⟨bu, 5, none⟩ = some (.slice ak' m' ck')) := hide ⟨(hgrow5.cell_far ⟨bu, 0, none⟩ (Nat.lt_of_lt_of_le (unhide HGO).1 (unhide H4).1.size) (unhide HGO).2).trans ((unhide HS4).1), (hgrow5.cell_far ⟨bu, 1, none⟩ (Nat.lt_of_lt_of_le (unhide HGO).1 (unhide H4).1.size) (unhide HGO).2).trans ((unhide HS4).2.1), (hgrow5.cell_far ⟨bu, 2, none⟩ (Nat.lt_of_lt_of_le (unhide HGO).1 (unhide H4).1.size) (unhide HGO).2).trans ((unhide HS4).2.2.1), (hgrow5.cell_far ⟨bu, 3, none⟩ (Nat.lt_of_lt_of_le (unhide HGO).1 (unhide H4).1.size) (unhide HGO).2).trans ((unhide HS4).2.2.2.1), (hgrow5.cell_far ⟨bu, 4, none⟩ (Nat.lt_of_lt_of_le (unhide HGO).1 (unhide H4).1.size) (unhide HGO).2).trans ((unhide HS4).2.2.2.2.1), (hgrow5.cell_far ⟨bu, 5, none⟩ (Nat.lt_of_lt_of_le (unhide HGO).1 (unhide H4).1.size) (unhide HGO).2).trans ((unhide HS4).2.2.2.2.2)⟩
      have H5 := hide (And.intro hown5 (And.intro hgrow5 hat5))
      refine hK.out _ _ (Or.inr (unhide HS5)) ?_
      clear hK K hown5 hgrow5 hat5 hlt5 HS4
      try simp only [Act.put, List.setIfInBounds_toArray, List.set_cons_zero, List.set_cons_succ]
      refine till_one 10 (by kernel_rfl) rfl (fun K hK => ?_)
      obtain ⟨b0, b1, b2, b3, b4, b5⟩ := unhide HS5
      go_simp
      refine hK.out _ _ (Or.inl (by first | rfl | trivial)) ?_
      clear hK K b0 b1 b2 b3 b4 b5
      try simp only [Act.put, List.setIfInBounds_toArray, List.set_cons_zero, List.set_cons_succ]
      refine till_done (by kernel_rfl) ?_ _
      have RR := hide (unhide HEND W4 W5 g5 cap5 (d0, d1, d2, d3, d4, d5, d6, d7, d8) (unhide H4).1 (unhide H4).2 (unhide H5).1 (unhide H5).2.1 (unhide H5).2.2)
      clear HEND H4 H5 HS5 HGO HOW HI HCl HCo
      go_wp2_with fail
      go_roundw
      case rel => exact ⟨i + 1, _, _, _, rfl, by go_num, HI2, hide (by rw [hlo]; exact unhide RR)⟩
      case measure => have := unhide HI2; simp [intOf]; omega
    · have j1 : ¬ (i : Int) < (n : Int) := by omega
      have HF : Hid (∃ xs, EnN wr w.heap.size (.slice so q sc) xs ∧ xs.map (fun p => (p.1, p.2.2)) = es ∧ Below w.heap.size w wr) := hide (by
        obtain ⟨xs, h2, hq, hqi, h3, h5⟩ := unhide HX
        rw [List.take_of_length_le (by have := unhide HN; omega)] at h3
        exact ⟨xs, h2, h3, h5⟩)
      clear HX
      go_wp2_with fail
      go_ret
      obtain ⟨xs, f1, f2, f3⟩ := unhide HF
      exact ⟨_, rfl, xs, f1, f2, f3⟩
end Go.Proofs.Ytlmgiimgmjbkeaa
