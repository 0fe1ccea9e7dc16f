/-
  The walk of overEntries: entries that came out are written over; conditions: the form's own reach.
  The walk of held: Entries; held as one; conditions: the form's own reach.
-/
import Derived.Test.YtdaooapfokhfcaaGreatA50
namespace Go.Proofs.YtdaooapfokhfcaaGreat
open Go.RowKit
set_option linter.unusedVariables false
set_option linter.unusedSimpArgs false

/-- a row of entries, whatever it holds -/
def AnyR (w : World) (lo : Nat) (v : Value) (n : Nat) : Prop := ∃ xs, w.ownsRow lo 77 6 v n xs

theorem AnyR.of {w : World} {lo b n cap : Nat} {cs : Array Value} (hb : lo ≤ b) (h : w.heap[b]? = some (.cells cs 77 (0, 0))) (hn : n ≤ cap) (hm : cap ≤ maxLen) (hs : cs.size = cap * 6) : AnyR w lo (.slice (some ⟨b, 0, none⟩) n cap) n :=
  ⟨cs.toList.take (n * 6), by rw [List.length_take, Array.length_toList, hs]; have := Nat.mul_le_mul_right 6 hn; omega, .inr ⟨b, cap, cs, rfl, hb, h, hn, hm, hs, rfl⟩⟩

theorem AnyR.app {w : World} {lo n : Nat} {v : Value} (h : AnyR w lo v n) (hlo : lo ≤ w.heap.size) (hn : n ≤ 1000000) (mark : ByteArray) (g : Nat) (hg : w.heap[g]? = some (.cells #[.string mark, .int .i64 0, .int .i64 0, .string ⟨#[]⟩, .slice none 0 0, .slice none 0 0] 77 (0, 0))) :
    ∃ v' w', (Builtin.append_ #[38, 38] 38 #[v, .slice (some ⟨g, 0, none⟩) 1 1]).run Tryz.prog w = .ok v' w' ∧ AnyR w' lo v' (n + 1) ∧ w.grownBy w' v.ownBlock ∧ (v'.ownBlock = v.ownBlock ∨ v'.ownBlock = some w.heap.size) := by
  obtain ⟨xs, hown⟩ := h
  obtain ⟨iv, hiv, hz0, hz1, hz2⟩ := info_parts infoEr
  obtain ⟨v', w', e1, e2, e3, e4, e5⟩ := run_append_own_at (P := Tryz.prog) w lo 38 38 77 iv _ 6 96 Tryz.underlying38 hiv hz0 hz1 hz2 rfl (by omega) v n xs hown ⟨g, 0, none⟩ 1 1 [.string mark, .int .i64 0, .int .i64 0, .string ⟨#[]⟩, .slice none 0 0, .slice none 0 0] rfl (fun j u hu => by
    rw [add_offR, Nat.zero_add, cell_of_row w g j _ _ (0, 0) hg, List.getElem?_toArray]
    exact hu) (by simp [Value.oneCell']) (by unfold maxLen; omega) (by omega) hlo
  exact ⟨v', w', e1, ⟨_, e2⟩, e3, e5⟩

theorem mono_of {m : Nat → Nat} (hm : ∀ i, m i ≤ m (i + 1)) {i j : Nat} (h : i ≤ j) : m i ≤ m j := by
  induction j with
  | zero => rw [show i = 0 by omega]; exact Nat.le_refl _
  | succ j ih =>
    by_cases e : i ≤ j
    · exact Nat.le_trans (ih e) (hm j)
    · rw [show i = j + 1 by omega]
      exact Nat.le_refl _

/-- the first loop, half way -/
def Ov1 (G : Nat → Prop) (w : World) (lo : Nat) (sv : Value) (es : List (ByteArray × (ThV × Vl))) (R : Nat → Nat → Prop) (i : Nat) (wr : World) : Prop :=
  Fr G w wr ∧ wr.ownsRow lo 77 6 sv es.length (cellsV (mapK Prod.fst es)) ∧ ∀ (j : Nat) (p : ByteArray × (ThV × Vl)), i ≤ j → es[j]? = some p → IsQ wr (R j) p.2.2 (.agg (thV p.2.1).toArray)

set_option maxRecDepth 100000 in
set_option maxHeartbeats 3200000 in
theorem overE_any {w0 w : World} {lo : Nat} {sv : Value} {es : List (ByteArray × (ThV × Vl))} (h : EnO w0 lo sv es) (hb0 : Below w0.heap.size w0 w) (hlo0 : lo ≤ w0.heap.size) (hl : es.length ≤ 100000) (mark : ByteArray) :
    Calls Tryz.prog 14 #[sv, .string mark] w fun e w' => (∃ r, e = .returned r) ∧ Fr (fun b => lo ≤ b ∧ b < w0.heap.size) w w' := by
  have hz0 := hb0.size
  have hlo : lo ≤ w.heap.size := by omega
  obtain ⟨GG, hGG⟩ : ∃ GG : Nat → Prop, (fun b => lo ≤ b ∧ b < w0.heap.size) = GG := ⟨_, rfl⟩
  rw [hGG]
  obtain ⟨so, cap, hsv, hcap, hmax, hpl, hnone⟩ := own_slice h.row
  obtain ⟨n, hn⟩ : ∃ n, es.length = n := ⟨_, rfl⟩
  rw [hn] at hsv hcap hl hnone
  obtain ⟨m, hm, hrg⟩ := h.rg
  obtain ⟨R, hR⟩ : ∃ R : Nat → Nat → Prop, (fun j b => ((lo ≤ b ∧ b < w0.heap.size ∧ some b ≠ sv.ownBlock) ∧ isC w0 b) ∧ m j ≤ b ∧ b < m (j + 1)) = R := ⟨_, rfl⟩
  have H0 : Hid (Ov1 GG w lo sv es R 0 w) := hide ⟨Fr.refl _ _, row_to h.row (fun b hb => hb0.block b (h.row.lt b hb).2), fun j p _ hp => by rw [← hR]; exact (hrg j p hp).move (fun b hb => hb0.block b hb.1.1.2.1)⟩
  have HGB : Hid (∀ b, sv.ownBlock = some b → GG b) := hide (fun b hb => by rw [← hGG]; exact h.row.lt b hb)
  -- one step of the first loop
  have HS : Hid (∀ i, i < n → ∀ wr, Ov1 GG w lo sv es R i wr → ∃ b k c, so = some ⟨b, 0, none⟩ ∧ (∀ j u, (pcV (k, c))[j]? = some u → wr.cell? ⟨b, i * 6 + j, none⟩ = some u) ∧ Calls Tryz.prog 30 #[.agg (thV c).toArray, .string mark] wr fun e w' => e = .returned (.tuple #[]) ∧ Ov1 GG w lo sv es R (i + 1) w') := hide (fun i hi wr hh => by
    obtain ⟨hb, hrow, hel⟩ := hh
    obtain ⟨⟨k, c, y⟩, hp⟩ : ∃ p, es[i]? = some p := ⟨_, List.getElem?_eq_getElem (by omega)⟩
    rcases hrow.2 with ⟨e, e2⟩ | ⟨b, cap', cur, e, hbl, hg, hc, hm', hs, ht⟩
    · omega
    · have e' := e
      rw [hsv] at e'
      cases e'
      refine ⟨b, k, c, rfl, fun j u hu => ?_, ?_⟩
      · have h1 : (mapK Prod.fst es)[i]? = some (k, c) := by unfold mapK; rw [List.getElem?_map, hp]; rfl
        have h2 := cellsV_at (mapK Prod.fst es) i _ h1 j u hu
        have h3 := hrow.cells (show sv.ownBlock = some b by rw [e]; rfl) _ _ h2
        rw [add_offR, Nat.zero_add] at h3
        exact h3
      · have hq := hel i (k, (c, y)) (Nat.le_refl _) hp
        refine (over_any y _ mark (R i) wr hq (fun b hb' => by
          rw [← hR] at hb'
          have := hb'.1.1.2.1
          have := hb.size
          omega)).mono ?_
        rintro e9 w' ⟨rfl, hw⟩
        refine ⟨rfl, hb.trans (G' := R i) ⟨hw.os, hw.tape, hw.output, hw.size, fun j hj hn => hw.far hj hn⟩ (fun b _ hb' => by rw [← hR] at hb'; rw [← hGG]; exact ⟨hb'.1.1.1, hb'.1.1.2.1⟩), row_to hrow (fun b' hb' => hw.far (hrow.lt b' hb').2 (fun e => by rw [← hR] at e; exact e.1.1.2.2 hb'.symm)), fun j p hj hp' => ?_⟩
        refine (hel j p (by omega) hp').move (fun b' hb' => hw.far ?_ (fun e => ?_))
        · rw [← hR] at hb'
          have := hb'.1.1.2.1
          have := hb.size
          omega
        · rw [← hR] at e hb'
          have h1 := e.2.2
          have h2 := hb'.2.1
          have h3 := mono_of hm hj
          omega)
  have HL : Hid (lo ≤ w.heap.size) := hide hlo
  have HA : Hid (∀ i wr, Ov1 GG w lo sv es R i wr → Fr GG w wr ∧ AnyR wr lo sv n) := hide (fun i wr hh => ⟨hh.1, _, by rw [← hn]; exact hh.2.1⟩)
  rw [hsv] at H0 HS HA HGB ⊢
  clear h hrg hR hm hn hlo hGG hb0 hlo0 hz0
  go_enter Tryz.func14, Tryz.ntmps14
  go_wp2_with fail
  go_loopw [4] (fun x wr => ∃ i : Nat, x = .int .i64 (i : Int) ∧ i ≤ n ∧ Hid (Ov1 GG w lo (.slice so n cap) es R i wr)) (fun x _ => n - (intOf x).toNat)
  case atStart => exact ⟨0, rfl, Nat.zero_le _, H0⟩
  case round =>
    obtain ⟨i, rfl, hi, HR⟩ := hrel
    by_cases hlt : i < n
    · obtain ⟨b, k, ⟨c0, c1, c2, c3, c4, c5, c6, c7, c8⟩, rfl, hc, CO⟩ := unhide HS i hlt wr (unhide HR)
      have d1 : wr.cell? ⟨b, i * 6 + 1, none⟩ = some (.int .i64 c0) := hc 1 _ rfl
      have d2 : wr.cell? ⟨b, i * 6 + 2, none⟩ = some (.int .i64 c1) := hc 2 _ rfl
      have d3 : wr.cell? ⟨b, i * 6 + 3, none⟩ = some (.string c2) := hc 3 _ rfl
      have d4 : wr.cell? ⟨b, i * 6 + 4, none⟩ = some (.slice c3 c4 c5) := hc 4 _ rfl
      have d5 : wr.cell? ⟨b, i * 6 + 5, none⟩ = some (.slice c6 c7 c8) := hc 5 _ rfl
      have COH := hide CO
      dsimp only [thV] at COH
      have i1 : (i : Int) < (n : Int) := by omega
      have i0 : (0 : Int) ≤ (i : Int) := by omega
      have hmx : cap ≤ 9223372036854775807 := by unfold maxLen at hmax; omega
      have HN : Hid (i + 1 ≤ n) := hide hlt
      clear hc CO HR
      go_wp2_with fail
      refine (unhide COH).mono ?_
      rintro e u2 ⟨rfl, hh⟩
      have H2 := hide hh
      clear hh COH d1 d2 d3 d4 d5
      go_wp2_with fail
      go_roundw
      case rel => exact ⟨i + 1, by go_num, unhide HN, H2⟩
      case measure => have := unhide HN; simp [intOf]; omega
    · have i1 : ¬ (i : Int) < (n : Int) := by omega
      have HR2 := hide (unhide HA i wr (unhide HR))
      clear HR HS HA H0
      go_wp2_with fail
      go_loopw [5] (fun x wr => ∃ i : Nat, x = .int .i64 (i : Int) ∧ i ≤ n ∧ Hid (Fr GG w wr ∧ AnyR wr lo (.slice so n cap) n)) (fun x _ => n - (intOf x).toNat)
      case atStart => exact ⟨0, rfl, Nat.zero_le _, HR2⟩
      case round =>
        clear HR2
        obtain ⟨i2, rfl, hi2, HR⟩ := hrel
        by_cases hlt2 : i2 < n
        · obtain ⟨hb, xs, hown⟩ := unhide HR
          rcases hown.2 with ⟨e, e2⟩ | ⟨b, cap', cur, e, hbl, hg, hc, hm', hs, ht⟩
          · omega
          cases e
          have hsz : i2 * 6 + 6 ≤ cur.size := by
            rw [hs]
            have := Nat.mul_le_mul_right 6 (show i2 + 1 ≤ cap by omega)
            omega
          have cell : ∀ j, j < 6 → ∃ y, wr.cell? ⟨b, i2 * 6 + j, none⟩ = some y := fun j hj => ⟨cur[i2 * 6 + j]'(by omega), by rw [cell_of_row wr b _ cur _ (0, 0) hg]; exact Array.getElem?_eq_getElem _⟩
          obtain ⟨y0, e0⟩ := cell 0 (by omega)
          obtain ⟨y1, e1⟩ := cell 1 (by omega)
          obtain ⟨y2, e2⟩ := cell 2 (by omega)
          obtain ⟨y3, e3⟩ := cell 3 (by omega)
          obtain ⟨y4, e4⟩ := cell 4 (by omega)
          obtain ⟨y5, e5⟩ := cell 5 (by omega)
          rw [Nat.add_zero] at e0
          have f0 := frozen_of_row wr b (i2 * 6) _ _ hg
          have f1 := frozen_of_row wr b (i2 * 6 + 1) _ _ hg
          have f2 := frozen_of_row wr b (i2 * 6 + 2) _ _ hg
          have f3 := frozen_of_row wr b (i2 * 6 + 3) _ _ hg
          have f4 := frozen_of_row wr b (i2 * 6 + 4) _ _ hg
          have f5 := frozen_of_row wr b (i2 * 6 + 5) _ _ hg
          have s6 := heap_setCell_same _ b (i2 * 6 + 5) _ _ (.slice none 0 0) (heap_setCell_same _ b (i2 * 6 + 4) _ _ (.slice none 0 0) (heap_setCell_same _ b (i2 * 6 + 3) _ _ (.string ⟨#[]⟩) (heap_setCell_same _ b (i2 * 6 + 2) _ _ (.int .i64 0) (heap_setCell_same _ b (i2 * 6 + 1) _ _ (.int .i64 0) (heap_setCell_same _ b (i2 * 6) _ _ (.string mark) hg)))))
          have hgb := unhide HGB b rfl
          have HR3 : Hid (Fr GG w ((((((wr.setCell ⟨b, i2 * 6, none⟩ (.string mark)).setCell ⟨b, i2 * 6 + 1, none⟩ (.int .i64 0)).setCell ⟨b, i2 * 6 + 2, none⟩ (.int .i64 0)).setCell ⟨b, i2 * 6 + 3, none⟩ (.string ⟨#[]⟩)).setCell ⟨b, i2 * 6 + 4, none⟩ (.slice none 0 0)).setCell ⟨b, i2 * 6 + 5, none⟩ (.slice none 0 0)) ∧ AnyR ((((((wr.setCell ⟨b, i2 * 6, none⟩ (.string mark)).setCell ⟨b, i2 * 6 + 1, none⟩ (.int .i64 0)).setCell ⟨b, i2 * 6 + 2, none⟩ (.int .i64 0)).setCell ⟨b, i2 * 6 + 3, none⟩ (.string ⟨#[]⟩)).setCell ⟨b, i2 * 6 + 4, none⟩ (.slice none 0 0)).setCell ⟨b, i2 * 6 + 5, none⟩ (.slice none 0 0)) lo (.slice (some ⟨b, 0, none⟩) n cap) n) := hide ⟨(((((hb.put hgb).put hgb).put hgb).put hgb).put hgb).put hgb, AnyR.of hbl s6 hc hm' (by simp [hs])⟩
          have ia2 : (i2 : Int) < (n : Int) := by omega
          have ib2 : (0 : Int) ≤ (i2 : Int) := by omega
          have hmx : cap ≤ 9223372036854775807 := by unfold maxLen at hmax; omega
          have HN : Hid (i2 + 1 ≤ n) := hide hlt2
          clear HR hb hown ht hg cell s6 hs hsz hbl hgb
          go_wp2_with fail
          go_roundw
          case rel => exact ⟨i2 + 1, by go_num, unhide HN, HR3⟩
          case measure => have := unhide HN; simp [intOf]; omega
        · have ia2 : ¬ (i2 : Int) < (n : Int) := by omega
          go_wp2_with fail
          go_loopw [0, 6] (fun lv x wr => ∃ i n' : Nat, x = .int .i64 (i : Int) ∧ i ≤ 9 ∧ n' ≤ n + i ∧ Hid (Fr GG w wr ∧ AnyR wr lo lv n' ∧ ∀ b, lv.ownBlock = some b → GG b ∨ w.heap.size ≤ b)) (fun _ x _ => 9 - (intOf x).toNat)
          case atStart => exact ⟨0, n, rfl, by omega, by omega, hide ⟨(unhide HR).1, (unhide HR).2, fun b hb => .inl (unhide HGB b hb)⟩⟩
          case round =>
            clear HR
            obtain ⟨i3, n3, rfl, hi3, hn3, HR⟩ := hrel
            by_cases hlt3 : i3 < 9
            · have ia3 : (i3 : Int) < 9 := by omega
              obtain ⟨hb, hany, hob⟩ := unhide HR
              obtain ⟨G, hG⟩ : ∃ G, wr.heap.size = G := ⟨_, rfl⟩
              obtain ⟨wa, hwa⟩ : ∃ wa, wr.alloc (.cells #[.string mark, .int .i64 0, .int .i64 0, .string ⟨#[]⟩, .slice none 0 0, .slice none 0 0] 77) = wa := ⟨_, rfl⟩
              have na : wa.heap[G]? = some (.cells #[.string mark, .int .i64 0, .int .i64 0, .string ⟨#[]⟩, .slice none 0 0, .slice none 0 0] 77 (0, 0)) := by rw [← hwa, ← hG]; exact heap_alloc_new wr _
              have ba : Below wr.heap.size wr wa := by rw [← hwa]; exact (Below.refl _ _).alloc (Nat.le_refl _) _
              have hlr : lo ≤ wr.heap.size := Nat.le_trans (unhide HL) hb.size
              obtain ⟨xs, hown⟩ := hany
              obtain ⟨v', w', r', hany', g', a'⟩ := AnyR.app (w := wa) ⟨xs, row_to hown (fun b hb' => ba.block b (hown.lt b hb').2)⟩ (Nat.le_trans hlr ba.size) (by omega) mark G na
              have hz := hb.size
              have hza := ba.size
              have H3 : Hid (Fr GG w w' ∧ AnyR w' lo v' (n3 + 1) ∧ ∀ b, v'.ownBlock = some b → GG b ∨ w.heap.size ≤ b) := hide ⟨(hb.then ba).trans ⟨g'.os, g'.tape, g'.output, g'.size, fun j hj hn => g'.block j hj (fun e => hn e.symm)⟩ (fun j hj e => (hob j e).resolve_right (by omega)), hany', fun b hb' => by
                rcases a' with e | e
                · exact hob b (by rw [← e]; exact hb')
                · rw [e] at hb'
                  cases hb'
                  exact .inr (by omega)⟩
              have HN : Hid (i3 + 1 ≤ 9 ∧ n3 + 1 ≤ n + (i3 + 1)) := hide ⟨by omega, by omega⟩
              clear HR hb hown hany' g' a' hob hz hza ba na hlr hl
              go_wp2_with (at_builtin; refine Go.Lib.wpList_append_run _ rfl (.tmp 35) (.tmp 38) 38 38 rfl _ _ rfl rfl v' w' r' ?_; clear r')
              go_roundw
              case rel => exact ⟨i3 + 1, n3 + 1, by go_num, (unhide HN).1, (unhide HN).2, H3⟩
              case measure => have := (unhide HN).1; simp [intOf]; omega
            · have ia3 : ¬ (i3 : Int) < 9 := by omega
              have HB := hide (unhide HR).1
              clear HR
              go_wp2_with fail
              go_end0
              exact ⟨⟨_, rfl⟩, unhide HB⟩
end Go.Proofs.YtdaooapfokhfcaaGreat

namespace Go.Proofs.YtdaooapfokhfcaaGreat
open Go.RowKit
set_option linter.unusedVariables false
set_option linter.unusedSimpArgs false

section
variable {wk w w' : World} {K : Nat → Prop} {s r : Nat} {X X' Y Y' B : Xs} {Bs Bs' Cs Cs' : List Xs} {N N' : Nat}

/-- something new is written over -/
theorem Duo.overF {Q : Nat → Prop} {w8 w9 : World} (h : Duo wk K w s X Bs r Y Cs N) (hb : Below w.heap.size w w8) (hw : Fr Q w8 w9) (hQ : ∀ j, Q j → w.heap.size ≤ j) : Duo wk K w9 s X Bs r Y Cs N := by
  have h8 := h.later hb
  obtain ⟨V, t, V2, t2, e1, e2, h1, h2, h3, h4, h5, h6⟩ := h
  have hz := h6.size
  have hnK : ∀ j, Q j → ¬ K j := fun j hj e => by
    have h1 := (h5 j e).1
    have h2 := hQ j hj
    omega
  refine ⟨V, t, V2, t2, e1, e2, (h1.later hb).other hw (fun j hj e => ?_) (fun j hj e => ?_), (h2.later hb).other hw (fun j hj e => ?_) (fun j hj e => ?_), h3, h4, h5, (h6.then hb).trans hw (fun j _ hj => hnK j hj)⟩
  · have := h1.sto.lt e
    have := hQ j hj
    omega
  · have := (h1.sto.vs j e).1
    have := hQ j hj
    omega
  · have := h2.rto.lt e
    have := hQ j hj
    omega
  · have := (h2.rto.vs j e).1
    have := hQ j hj
    omega

/-- what follows the first Entries -/
def EntChain (wk : World) (K : Nat → Prop) (s r N n : Nat) (al : Option Addr) (ca : Nat) (u2 : World) : Prop :=
  Calls Tryz.prog 26 #[.pointer (some ⟨s, 0, none⟩)] u2 fun e u3 => ∃ bl cb, e = .returned (.slice bl n cb) ∧
    Hid (Calls Tryz.prog 37 #[.pointer (some ⟨r, 0, none⟩)] u3 fun e u4 => ∃ dl cd, e = .returned (.slice dl n cd) ∧
      Hid (Calls Tryz.prog 13 #[.slice al n ca, .slice dl n cd] u4 fun e u5 => e = .returned (.bool true) ∧
        Hid (Calls Tryz.prog 14 #[.slice al n ca, .string ⟨#[101]⟩] u5 fun e u6 => (∃ r, e = .returned r) ∧
          Hid (Calls Tryz.prog 13 #[.slice bl n cb, .slice dl n cd] u6 fun e u7 => e = .returned (.bool true) ∧ Hid (∃ X' Bs', Duo wk K u7 s X' Bs' r X' Bs' (N + 1))))))

theorem ent_chain (h : Duo wk K w s X Bs r X Bs N) {w1 w2 : World} (B1 : Below w.heap.size w w1) (b2 : Below w1.heap.size w1 w2) {sv : Value} {es : List (ByteArray × (ThV × Vl))} (he : mapK Prod.snd es = X) (hen : EnO w2 w1.heap.size sv es) :
    ∃ al ca, sv = .slice al X.length ca ∧ EntChain wk K s r N X.length al ca w2 := by
  obtain ⟨f1, f2, -, -⟩ := h.facts
  have lenX : ∀ {xs : List (ByteArray × (ThV × Vl))}, mapK Prod.snd xs = X → xs.length = X.length := fun e => by rw [← e, mapK_len]
  have small : ∀ {xs : List (ByteArray × (ThV × Vl))}, mapK Prod.snd xs = X → 96 * xs.length ≤ 140737488351232 := fun e => by rw [lenX e]; omega
  have keys : ∀ {xs : List (ByteArray × (ThV × Vl))}, mapK Prod.snd xs = X → ∀ p ∈ xs, p.1.size ≤ 140737488351232 := fun e p hp => by
    have := f2 (p.1, p.2.2) (by rw [← e]; exact List.mem_map.2 ⟨p, hp, rfl⟩)
    dsimp only at this
    omega
  obtain ⟨al, ca, hsv, hE⟩ := hen.isE (small he) (keys he)
  rw [he] at hE
  rw [lenX he] at hsv
  subst hsv
  have z1 := B1.size
  have z2 := b2.size
  have bw2 : Below w.heap.size w w2 := B1.trans (b2.mono z1)
  refine ⟨al, ca, rfl, (duo_entries (h.later bw2)).mono ?_⟩
  rintro e w3 ⟨sv3, es3, rfl, he3, hen3, b3⟩
  obtain ⟨bl, cb, hsv3, hE3⟩ := hen3.isE (small he3) (keys he3)
  rw [he3] at hE3
  rw [lenX he3] at hsv3
  subst hsv3
  have z3 := b3.size
  have bw3 : Below w.heap.size w w3 := bw2.trans (b3.mono bw2.size)
  refine ⟨bl, cb, rfl, hide ((duo_rentries (h.later bw3)).mono ?_)⟩
  rintro e w4 ⟨sv4, es4, rfl, he4, hen4, b4⟩
  obtain ⟨dl, cd, hsv4, hE4⟩ := hen4.isE (small he4) (keys he4)
  rw [he4] at hE4
  rw [lenX he4] at hsv4
  subst hsv4
  have z4 := b4.size
  have bw4 : Below w.heap.size w w4 := bw3.trans (b4.mono bw3.size)
  have hE_4 : IsE w4 (fun b => b < w4.heap.size) X al ca := hE.to (fun b hb => (b4.block b (by have := hb.2; omega)).trans (b3.block b hb.2)) (fun b hb => by have := hb.2; omega)
  have hE3_4 : IsE w4 (fun b => w2.heap.size ≤ b ∧ b < w3.heap.size) X bl cb := hE3.to (fun b hb => b4.block b hb.2) (fun b hb => hb)
  have tru : ∀ {u : World} {e : Ending} {u' : World}, ResEq X X u e u' → e = .returned (.bool true) ∧ Below u.heap.size u u' := fun hh => by
    obtain ⟨q, rfl, hq, b⟩ := hh
    rw [hq.2 (smP_refl X)]
    exact ⟨rfl, b⟩
  refine ⟨dl, cd, rfl, hide ((sameEn_any X X al dl X.length X.length ca cd w4.heap.size w4 rfl rfl hE_4 (hE4.to (fun _ _ => rfl) (fun b hb => hb.2)) (Nat.le_refl _)).mono ?_)⟩
  intro e w5 hh
  obtain ⟨rfl, b5⟩ := tru hh
  have z5 := b5.size
  have bw5 : Below w.heap.size w w5 := bw4.trans (b5.mono bw4.size)
  have b25 : Below w2.heap.size w2 w5 := b3.trans ((b4.mono z3).trans (b5.mono (by omega)))
  refine ⟨rfl, hide ((overE_any hen b25 z2 (by rw [lenX he]; omega) ⟨#[101]⟩).mono ?_)⟩
  rintro e w6 ⟨hr, hfr⟩
  have z6 := hfr.size
  have d6 := h.overF bw5 hfr (fun j hj => by have := hj.1; omega)
  have far : ∀ j, w2.heap.size ≤ j → j < w4.heap.size → w6.heap[j]? = w4.heap[j]? := fun j h1 h2 => (hfr.block j (by omega) (fun e => by have := e.2; omega)).trans (b5.block j h2)
  refine ⟨hr, hide ((sameEn_any X X bl dl X.length X.length cb cd w6.heap.size w6 rfl rfl (hE3_4.to (fun b hb => far b hb.1 (by have := hb.2; omega)) (fun b hb => by have := hb.2; omega)) (hE4.to (fun b hb => far b (by have := hb.1; omega) hb.2) (fun b hb => by have := hb.2; omega)) (Nat.le_refl _)).mono ?_)⟩
  intro e w7 hh
  obtain ⟨rfl, b7⟩ := tru hh
  exact ⟨rfl, hide ⟨X, Bs, (d6.later b7).up⟩⟩

set_option maxRecDepth 100000 in
set_option maxHeartbeats 1600000 in
theorem held_entries {P : Nat → Prop} (h : Duo wk K w s X Bs r X Bs N) (hN : N ≤ 1353245080318) (kd : Int) (key : ByteArray) (v : Vl) (x0 x1 : Int) (x2 : ByteArray) (x3 : Option Addr) (x4 x5 : Nat) (x6 : Option Addr) (x7 x8 : Nat) (bk : -9223372036854775808 ≤ kd ∧ kd ≤ 9223372036854775807) (hv : IsP w P v (.agg #[.int .i64 x0, .int .i64 x1, .string x2, .slice x3 x4 x5, .slice x6 x7 x8])) (hP : ∀ j, P j → K j) (hk : pickI kd 9 = 7) :
    Calls Tryz.prog 8 #[.pointer (some ⟨s, 0, none⟩), .pointer (some ⟨r, 0, none⟩), .agg #[.int .i64 kd, .string key, .int .i64 x0, .int .i64 x1, .string x2, .slice x3 x4 x5, .slice x6 x7 x8]] w fun e w' => HeldPost wk K s r N e w' := by
  obtain ⟨w1, hw1⟩ : ∃ w1, w.alloc (.cells #[.int .i64 kd, .string key, .int .i64 x0, .int .i64 x1, .string x2, .slice x3 x4 x5, .slice x6 x7 x8] 34) = w1 := ⟨_, rfl⟩
  obtain ⟨G, hG⟩ : ∃ G, w.heap.size = G := ⟨_, rfl⟩
  have B1 : Below w.heap.size w w1 := by rw [← hw1]; exact (Below.refl _ _).alloc (Nat.le_refl _) _
  have N1 : w1.heap[G]? = some (.cells #[.int .i64 kd, .string key, .int .i64 x0, .int .i64 x1, .string x2, .slice x3 x4 x5, .slice x6 x7 x8] 34 (0, 0)) := by rw [← hw1, ← hG]; exact heap_alloc_new w _
  have g0 : w1.cell? ⟨G, 0, none⟩ = some (.int .i64 kd) := by rw [cell_of_row w1 G 0 _ _ (0, 0) N1]; rfl
  have g1 : w1.cell? ⟨G, 1, none⟩ = some (.string key) := by rw [cell_of_row w1 G 1 _ _ (0, 0) N1]; rfl
  have CP := pick_any kd 9 w1 bk.1 bk.2 (by omega) (by omega)
  rw [hk] at CP
  have CPH := hide CP
  have D1 := h.later B1
  have CC : Hid (Calls Tryz.prog 26 #[.pointer (some ⟨s, 0, none⟩)] w1 fun e w' => ∃ n al ca, e = .returned (.slice al n ca) ∧ Hid (EntChain wk K s r N n al ca w')) := hide ((duo_entries D1).mono (by
    rintro e w' ⟨sv, es, rfl, he, hen, b⟩
    obtain ⟨al, ca, rfl, hc⟩ := ent_chain h B1 b he hen
    exact ⟨_, al, ca, rfl, hide hc⟩))
  clear h hv hP B1 N1 hk CP D1
  go_enter Tryz.func8, Tryz.ntmps8
  go_wp2_with fail
  refine (unhide CPH).mono ?_
  rintro e u1 ⟨rfl, hu1⟩
  obtain rfl := hu1.symm
  clear hu1 CPH
  go_wp2_with fail
  refine (unhide CC).mono ?_
  rintro e u2 ⟨n, al, ca, rfl, CA⟩
  clear CC g0 g1
  go_wp2_with fail
  refine (unhide CA).mono ?_
  rintro e u3 ⟨bl, cb, rfl, CB⟩
  clear CA
  go_wp2_with fail
  refine (unhide CB).mono ?_
  rintro e u4 ⟨dl, cd, rfl, CD⟩
  clear CB
  go_wp2_with fail
  refine (unhide CD).mono ?_
  rintro e u5 ⟨rfl, CE⟩
  clear CD
  go_wp2_with fail
  refine (unhide CE).mono ?_
  rintro e u6 ⟨⟨rv, rfl⟩, CF⟩
  clear CE
  go_wp2_with fail
  refine (unhide CF).mono ?_
  rintro e u7 ⟨rfl, HQ⟩
  clear CF
  go_wp2_with fail
  go_ret
  exact ⟨by simp, unhide HQ⟩

/-- held answers yes -/
theorem held_any {P : Nat → Prop} (h : Duo wk K w s X Bs r X Bs N) (hN : N ≤ 1353245080318) (kd : Int) (key : ByteArray) (v : Vl) (x0 x1 : Int) (x2 : ByteArray) (x3 : Option Addr) (x4 x5 : Nat) (x6 : Option Addr) (x7 x8 : Nat) (bk : -9223372036854775808 ≤ kd ∧ kd ≤ 9223372036854775807) (hv : IsP w P v (.agg #[.int .i64 x0, .int .i64 x1, .string x2, .slice x3 x4 x5, .slice x6 x7 x8])) (hP : ∀ j, P j → K j) :
    Calls Tryz.prog 8 #[.pointer (some ⟨s, 0, none⟩), .pointer (some ⟨r, 0, none⟩), .agg #[.int .i64 kd, .string key, .int .i64 x0, .int .i64 x1, .string x2, .slice x3 x4 x5, .slice x6 x7 x8]] w fun e w' => HeldPost wk K s r N e w' := by
  have hr : 0 ≤ pickI kd 9 ∧ pickI kd 9 < 9 := by
    unfold pickI
    exact ⟨Int.emod_nonneg _ (by omega), Int.emod_lt_of_pos _ (by omega)⟩
  rcases (show pickI kd 9 = 0 ∨ pickI kd 9 = 1 ∨ pickI kd 9 = 2 ∨ pickI kd 9 = 3 ∨ pickI kd 9 = 4 ∨ pickI kd 9 = 5 ∨ pickI kd 9 = 6 ∨ pickI kd 9 = 7 ∨ pickI kd 9 = 8 by omega) with hk | hk | hk | hk | hk | hk | hk | hk | hk
  · exact held_put h hN _ _ _ _ _ _ _ _ _ _ _ _ bk hv hP hk
  · exact held_get h hN _ _ _ _ _ _ _ _ _ _ _ _ bk hv hP hk
  · exact held_del h hN _ _ _ _ _ _ _ _ _ _ _ _ bk hv hP hk
  · exact held_after h hN _ _ _ _ _ _ _ _ _ _ _ _ bk hv hP hk
  · exact held_check h hN _ _ _ _ _ _ _ _ _ _ _ _ bk hv hP hk
  · cases Bs with
    | nil => exact held_roll0 h hN _ _ _ _ _ _ _ _ _ _ _ _ bk hv hP hk
    | cons B Bs => exact held_roll h hN _ _ _ _ _ _ _ _ _ _ _ _ bk hv hP hk
  · cases Bs with
    | nil => exact held_commit0 h hN _ _ _ _ _ _ _ _ _ _ _ _ bk hv hP hk
    | cons B Bs => exact held_commit h hN _ _ _ _ _ _ _ _ _ _ _ _ bk hv hP hk
  · exact held_entries h hN _ _ _ _ _ _ _ _ _ _ _ _ bk hv hP hk
  · exact held_len h hN _ _ _ _ _ _ _ _ _ _ _ _ bk hv hP hk
end
end Go.Proofs.YtdaooapfokhfcaaGreat
