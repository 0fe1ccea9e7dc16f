/-
  The walk of LexReads; conditions: what the variables of strconv hold.
-/
import Derived.Test.YtnflbgejjgjpcaaDoorLxR5
import Derived.Test.YtnflbgejjgjpcaaDoorLxL1
namespace Go.Proofs.YtnflbgejjgjpcaaDoor
open Go.RowKit
set_option linter.unusedVariables false
set_option linter.unusedSimpArgs false

/-- tokens, place and error in one -/
def uniT : Except (Nat × Nat) (List Tk) → List Tk × Nat × Nat
  | .error (p, e) => ([], p, e)
  | .ok ts => (ts, 0, 0)

theorem uni_len (l : List UInt8) : (uniT (allT l)).1.length ≤ 8193 := by
  cases h : allT l with
  | error x => obtain ⟨p, e⟩ := x; simp [uniT]
  | ok ts => exact (all_again h).2.1

theorem uni_of {B n p er : Nat} {ts : List Tk} {w' : World} {e : Ending} {x : Except (Nat × Nat) (List Tk)} (h : AllR B e w' x) (hx : uniT x = (ts, p, er)) (hn : ts.length = n) :
    ∃ lo c, e = .returned (.tuple #[.slice lo n c, .int .i64 (p : Int), .int .i64 (er : Int)]) ∧ n ≤ c ∧ c ≤ maxLen ∧ w'.ownsRow B 29 4 (.slice lo n c) n (flT ts) ∧ (∀ a, lo = some a → B ≤ a.block ∧ a = ⟨a.block, 0, none⟩ ∧ a.block < w'.heap.size) := by
  cases x with
  | error y =>
    obtain ⟨q, f⟩ := y
    simp only [uniT, Prod.mk.injEq] at hx
    obtain ⟨rfl, rfl, rfl⟩ := hx
    subst hn
    exact ⟨none, 0, h, Nat.le_refl _, by unfold maxLen; omega, ⟨rfl, Or.inl ⟨rfl, rfl⟩⟩, fun a ha => by cases ha⟩
  | ok us =>
    simp only [uniT, Prod.mk.injEq] at hx
    obtain ⟨rfl, rfl, rfl⟩ := hx
    obtain ⟨v, rfl, hown⟩ := h
    rw [hn] at hown
    obtain ⟨ao, c, rfl, hs1, hs2, hs3, hs4⟩ := slice_form hown
    exact ⟨ao, c, rfl, hs2, hs3, hown, fun a ha => ⟨(hown.lt a.block (hs4 a ha).1).1, (hs4 a ha).2, (hown.lt a.block (hs4 a ha).1).2⟩⟩

theorem cell_heap {w u : World} {b o : Nat} (h : u.heap[b]? = w.heap[b]?) : u.cell? ⟨b, o, none⟩ = w.cell? ⟨b, o, none⟩ := by simp [World.cell?, h]

theorem TR.to {w u : World} {ao : Option Addr} {ts : List Tk} (h : TR w ao ts) (hs : w.heap.size ≤ u.heap.size) (hb : ∀ a, ao = some a → u.heap[a.block]? = w.heap[a.block]?) : TR u ao ts := fun i t ht => by
  obtain ⟨b, rfl, h2, h3, h4, h5, h6⟩ := h i t ht
  have hh := hb _ rfl
  exact ⟨b, rfl, Nat.lt_of_lt_of_le h2 hs, (cell_heap hh).trans h3, (cell_heap hh).trans h4, (cell_heap hh).trans h5, (cell_heap hh).trans h6⟩

theorem own_set {w : World} {B n cap g : Nat} {e : TypeId} {size : Nat} {xs : List Value} (h : w.ownsRow B e size (.slice (some ⟨g, 0, none⟩) n cap) n xs) (j : Nat) (hj : j < n * size) (y : Value) : (w.setCell ⟨g, j, none⟩ y).ownsRow B e size (.slice (some ⟨g, 0, none⟩) n cap) n (xs.set j y) := by
  refine ⟨by rw [List.length_set]; exact h.1, ?_⟩
  rcases h.2 with ⟨e1, _⟩ | ⟨g', cap', cur, e1, hb, hg, h1, h2, h3, h4⟩
  · cases e1
  · injection e1 with e2 e3 e4
    injection e2 with e2
    injection e2 with e5
    subst e5 e4
    refine .inr ⟨g, cap, cur.setIfInBounds j y, rfl, hb, heap_setCell_same w g j cur e y hg, h1, h2, by rw [Array.size_setIfInBounds]; exact h3, ?_⟩
    rw [Array.toList_setIfInBounds, List.take_set, h4]

set_option maxRecDepth 100000 in
set_option maxHeartbeats 4000000 in
theorem reads_walk (a0 : Option Addr) (len cap : Nat) (w : World) (he : Ev w) (hw6 : 5 < w.heap.size) (hl : len ≤ maxLen) (Sx : Nat → ByteArray) (hx : ∀ j, j < len → ∃ b o, a0 = some ⟨b, o, none⟩ ∧ w.cell? ⟨b, o + j, none⟩ = some (.string (Sx j))) :
    Calls Tryd.prog 3 #[.slice a0 len cap] w fun e w' => e = .returned (.bool true) ∧ Below w.heap.size w w' := by
  have HX := hide hx
  have hl2 : (len : Int) ≤ 9223372036854775807 := by unfold maxLen at hl; omega
  have HEV : Hid (∀ u, Below w.heap.size w u → Ev u ∧ 5 < u.heap.size) := hide (fun u hu => ⟨he.below hu hw6, Nat.lt_of_lt_of_le hw6 hu.size⟩)
  obtain ⟨it, hi, hz0, hzs, hzb⟩ := info_parts infoTok
  have HI := hide (And.intro hi (And.intro hz0 (And.intro hzs hzb)))
  clear hx hl he hi hz0 hzs hzb
  go_enter Tryd.func3, Tryd.ntmps3
  go_wp2_with fail
  go_loopw [3] (fun x wr => ∃ (i : Nat), x = .int .i64 (i : Int) ∧ i ≤ len ∧ Hid (Below w.heap.size w wr)) (fun x _ => len - (intOf x).toNat)
  case atStart => exact ⟨0, rfl, Nat.zero_le _, hide (Below.refl _ _)⟩
  case round =>
    obtain ⟨wz, hwz⟩ : ∃ wz, wz = wr := ⟨_, rfl⟩
    subst hwz
    obtain ⟨i, rfl, hi, HB⟩ := hrel
    by_cases hlt : i < len
    · obtain ⟨b0, o0, rfl, hc⟩ := unhide HX i hlt
      have hblk : b0 < w.heap.size := World.block_lt_of_cell? _ _ (by rw [hc])
      have HCS : Hid (∀ u, Below w.heap.size w u → u.cell? ⟨b0, o0 + i, none⟩ = some (.string (Sx i)) ∧ b0 < u.heap.size) := hide (fun u hu => ⟨(Below.cell hu hblk).trans hc, Nat.lt_of_lt_of_le hblk hu.size⟩)
      have hcr := (unhide HCS wz (unhide HB)).1
      have j1 : (i : Int) < (len : Int) := by omega
      have had : (⟨b0, o0, none⟩ : Addr).add i = ⟨b0, o0 + i, none⟩ := by unfold Addr.add; split <;> simp_all
      obtain ⟨s, hs⟩ : ∃ s, Sx i = s := ⟨_, rfl⟩
      rw [hs] at hcr HCS
      obtain ⟨⟨ts, p, er⟩, hU⟩ : ∃ x, uniT (allT s.data.toList) = x := ⟨_, rfl⟩
      obtain ⟨n, hn⟩ : ∃ n, ts.length = n := ⟨_, rfl⟩
      have hn2 : n ≤ 8193 := by have := uni_len s.data.toList; rw [hU] at this; simp only at this; omega
      have CA : Hid (∀ u, Below w.heap.size w u → Calls Tryd.prog 7 #[.string s] u fun e w' => (∃ lo c, e = .returned (.tuple #[.slice lo n c, .int .i64 (p : Int), .int .i64 (er : Int)]) ∧ n ≤ c ∧ c ≤ maxLen ∧ Hid (w'.ownsRow u.heap.size 29 4 (.slice lo n c) n (flT ts) ∧ (∀ a, lo = some a → u.heap.size ≤ a.block ∧ a = ⟨a.block, 0, none⟩ ∧ a.block < w'.heap.size))) ∧ Hid (Below u.heap.size u w')) := hide (fun u hu => by
        refine (all_any s u (unhide HEV u hu).1 (unhide HEV u hu).2).mono ?_
        rintro e w' ⟨h1, h2⟩
        obtain ⟨lo, c, e1, e2, e3, e4, e5⟩ := uni_of h1 hU hn
        exact ⟨⟨lo, c, e1, e2, e3, hide ⟨e4, e5⟩⟩, hide h2⟩)
      have CD : Hid (∀ u, Calls Tryd.prog 8 #[.string s] u fun e w' => (∃ lo c, e = .returned (.tuple #[.slice lo n c, .int .i64 (p : Int), .int .i64 (er : Int)]) ∧ n ≤ c ∧ c ≤ maxLen ∧ Hid (w'.ownsRow u.heap.size 29 4 (.slice lo n c) n (flT ts) ∧ (∀ a, lo = some a → u.heap.size ≤ a.block ∧ a = ⟨a.block, 0, none⟩ ∧ a.block < w'.heap.size))) ∧ Hid (Below u.heap.size u w')) := hide (fun u => by
        refine (allD_any s u).mono ?_
        rintro e w' ⟨h1, h2⟩
        obtain ⟨lo, c, e1, e2, e3, e4, e5⟩ := uni_of h1 hU hn
        exact ⟨⟨lo, c, e1, e2, e3, hide ⟨e4, e5⟩⟩, hide h2⟩)
      have CSM : Hid (∀ (ko wo : Option Addr) (c c' : Nat) (u : World), n ≤ c → n ≤ c' → TR u ko ts → TR u wo ts → Calls Tryd.prog 9 #[.slice ko n c, .slice wo n c'] u fun e w' => e = .returned (.bool true) ∧ ∃ q, w' = u.drewN q) := hide (fun ko wo c c' u h1 h2 h3 h4 => by
        refine (same_any ts ts ko wo n n c c' u hn hn (by omega) (by omega) h1 h2 h3 h4).mono ?_
        rintro e w' ⟨r, rfl, hr, hq⟩
        exact ⟨by rw [hr.2 rfl], hq⟩)
      have HLT := hide hlt
      have HTN := hide hn
      have q1 : ((er : Int) != (er : Int)) = false := by simp
      have q2 : ((p : Int) != (p : Int)) = false := by simp
      clear hU hn hlt hc hs
      go_wp2_with fail
      refine ((unhide CA) wz (unhide HB)).mono ?_
      rintro e uA ⟨⟨lo, cl, rfl, hcl, hclm, HL⟩, HBA⟩
      have HWA : Hid (Below w.heap.size w uA) := hide ((unhide HB).trans ((unhide HBA).mono (unhide HB).size))
      have hcr2 := (unhide HCS uA (unhide HWA)).1
      clear hcr
      go_wp2_with fail
      refine ((unhide CA) uA (unhide HWA)).mono ?_
      rintro e uB ⟨⟨ko, ck, rfl, hck, hckm, HK⟩, HBB⟩
      have HWB : Hid (Below w.heap.size w uB) := hide ((unhide HWA).trans ((unhide HBB).mono (unhide HWA).size))
      have hcr3 := (unhide HCS uB (unhide HWB)).1
      clear hcr2
      go_wp2_with fail
      refine ((unhide CD) uB).mono ?_
      rintro e uC ⟨⟨wo, cw, rfl, hcw, hcwm, HW⟩, HBC⟩
      -- all three rows in one world
      obtain ⟨G, hG⟩ : ∃ G, wz.heap.size = G := ⟨_, rfl⟩
      have HST : Hid (uC.ownsRow G 29 4 (.slice lo n cl) n (flT ts) ∧ TR uC lo ts ∧ TR uC ko ts ∧ TR uC wo ts ∧ Below G wz uC ∧ (∀ a, lo = some a → a = ⟨a.block, 0, none⟩ ∧ (∀ a', ko = some a' → a.block ≠ a'.block) ∧ (∀ a', wo = some a' → a.block ≠ a'.block)) ∧ (∀ a', ko = some a' → a'.block < uC.heap.size) ∧ (∀ a', wo = some a' → a'.block < uC.heap.size)) := hide (by
        have hn := unhide HTN
        obtain ⟨l1, l2⟩ := unhide HL
        obtain ⟨k1, k2⟩ := unhide HK
        obtain ⟨w1, w2⟩ := unhide HW
        have hBA := unhide HBA
        have hBB := unhide HBB
        have hBC := unhide HBC
        have hAC : Below uA.heap.size uA uC := hBB.trans (hBC.mono hBB.size)
        have hown := own_later (own_later l1 (fun b hb _ => hBB.block b hb)) (fun b hb _ => hBC.block b hb)
        rw [hG] at hown hBA
        refine ⟨hown, (TR.of l1 hn).later hAC, (TR.of k1 hn).later hBC, TR.of w1 hn, hBA.trans (hAC.mono (by have := hBA.size; omega)), fun a ha => ⟨(l2 a ha).2.1, fun a' ha' => ?_, fun a' ha' => ?_⟩, fun a' ha' => ?_, fun a' ha' => (w2 a' ha').2.2⟩
        · have h1 := (l2 a ha).2.2
          have h2 := (k2 a' ha').1
          omega
        · have h1 := (l2 a ha).2.2
          have h2 := (w2 a' ha').1
          have h3 := hBB.size
          omega
        · exact Nat.lt_of_lt_of_le (k2 a' ha').2.2 hBC.size)
      have HGZ := hide hG
      have HWG : Hid (w.heap.size ≤ G) := hide (by rw [← hG]; exact (unhide HB).size)
      have HWC : Hid (∀ u, Below G wz u → Below w.heap.size w u) := hide (fun u hu => (unhide HB).trans (hu.mono (unhide HWG)))
      have CS1 := hide (unhide CSM lo wo cl cw uC hcl hcw (unhide HST).2.1 (unhide HST).2.2.2.1)
      clear HL HK HW HBA HBB HBC HWA HWB hcr3 CA CD
      go_wp2_with fail
      refine (unhide CS1).mono ?_
      rintro e uD ⟨rfl, q, hq⟩
      have HSD : Hid (uD.ownsRow G 29 4 (.slice lo n cl) n (flT ts) ∧ TR uD ko ts ∧ TR uD wo ts ∧ Below G wz uD ∧ (∀ a, lo = some a → a = ⟨a.block, 0, none⟩ ∧ (∀ a', ko = some a' → a.block ≠ a'.block) ∧ (∀ a', wo = some a' → a.block ≠ a'.block)) ∧ (∀ a', ko = some a' → a'.block < uD.heap.size) ∧ (∀ a', wo = some a' → a'.block < uD.heap.size)) := hide (by
        obtain ⟨h1, h2, h3, h4, h5, h6, h7, h8⟩ := unhide HST
        have hb : Below uC.heap.size uC uD := by rw [hq]; exact below_drewN' q uC
        exact ⟨own_later h1 (fun b hb' _ => hb.block b hb'), h3.later hb, h4.later hb, h5.trans (hb.mono (by have := h5.size; omega)), h6, fun a' ha' => Nat.lt_of_lt_of_le (h7 a' ha') hb.size, fun a' ha' => Nat.lt_of_lt_of_le (h8 a' ha') hb.size⟩)
      clear hq CS1 HST
      go_wp2_with fail
      -- written over
      go_loopw [13] (fun x wq => ∃ (j : Nat), x = .int .i64 (j : Int) ∧ j ≤ n ∧ Hid ((∃ xs, wq.ownsRow G 29 4 (.slice lo n cl) n xs) ∧ TR wq ko ts ∧ TR wq wo ts ∧ Below G wz wq ∧ uD.heap.size ≤ wq.heap.size)) (fun x _ => n - (intOf x).toNat)
      case atStart => exact ⟨0, rfl, Nat.zero_le _, hide ⟨⟨_, (unhide HSD).1⟩, (unhide HSD).2.1, (unhide HSD).2.2.1, (unhide HSD).2.2.2.1, Nat.le_refl _⟩⟩
      case round =>
        obtain ⟨j, rfl, hj, HY⟩ := hrel
        by_cases hjn : j < n
        · have k1 : (j : Int) < (n : Int) := by omega
          obtain ⟨⟨xs, hown⟩, hk, hw', hbel, hsz⟩ := unhide HY
          obtain ⟨b, cur, hlo, hbg, hcur⟩ : ∃ (b : Nat) (cur : Array Value), lo = some ⟨b, 0, none⟩ ∧ G ≤ b ∧ wr.heap[b]? = some (.cells cur 29 (0, 0)) := by
            rcases hown.2 with ⟨_, e⟩ | ⟨b, cap', cur, e, h1, h2, _⟩
            · omega
            · injection e with e1
              exact ⟨b, cur, e1, h1, h2⟩
          subst hlo
          have hxl := hown.1
          have hcell : ∀ m, m < 4 → ∃ v, wr.cell? ⟨b, j * 4 + m, none⟩ = some v := fun m hm => by
            obtain ⟨v, hv⟩ : ∃ v, xs[j * 4 + m]? = some v := ⟨_, List.getElem?_eq_getElem (by omega)⟩
            refine ⟨v, ?_⟩
            have := hown.cells (g := b) rfl _ v hv
            rwa [add_row] at this
          obtain ⟨v0, c0⟩ := hcell 0 (by omega)
          obtain ⟨v1, c1⟩ := hcell 1 (by omega)
          obtain ⟨v2, c2⟩ := hcell 2 (by omega)
          obtain ⟨v3, c3⟩ := hcell 3 (by omega)
          have fz := fun m => frozen_of_row wr b m _ _ hcur
          have f0 := fz (j * 4)
          have f1 := fz (j * 4 + 1)
          have f2 := fz (j * 4 + 2)
          have f3 := fz (j * 4 + 3)
          have hbl : b < wr.heap.size := (Array.getElem?_eq_some_iff.1 hcur).1
          obtain ⟨o, ho⟩ : ∃ o, j * 4 = o := ⟨_, rfl⟩
          have r1 := add_row b (j * 4)
          rw [Nat.add_zero] at c0
          rw [ho] at r1 c0 c1 c2 c3 f0 f1 f2 f3
          have hcap : (n : Int) ≤ (cl : Int) := by omega
          have HN : Hid ((∃ xs, ((((wr.setCell ⟨b, o, none⟩ (.int .i64 (-3))).setCell ⟨b, o + 1, none⟩ (.string ⟨#[]⟩)).setCell ⟨b, o + 2, none⟩ (.int .i64 0)).setCell ⟨b, o + 3, none⟩ (.int .i64 0)).ownsRow G 29 4 (.slice (some ⟨b, 0, none⟩) n cl) n xs) ∧ TR ((((wr.setCell ⟨b, o, none⟩ (.int .i64 (-3))).setCell ⟨b, o + 1, none⟩ (.string ⟨#[]⟩)).setCell ⟨b, o + 2, none⟩ (.int .i64 0)).setCell ⟨b, o + 3, none⟩ (.int .i64 0)) ko ts ∧ TR ((((wr.setCell ⟨b, o, none⟩ (.int .i64 (-3))).setCell ⟨b, o + 1, none⟩ (.string ⟨#[]⟩)).setCell ⟨b, o + 2, none⟩ (.int .i64 0)).setCell ⟨b, o + 3, none⟩ (.int .i64 0)) wo ts ∧ Below G wz ((((wr.setCell ⟨b, o, none⟩ (.int .i64 (-3))).setCell ⟨b, o + 1, none⟩ (.string ⟨#[]⟩)).setCell ⟨b, o + 2, none⟩ (.int .i64 0)).setCell ⟨b, o + 3, none⟩ (.int .i64 0)) ∧ uD.heap.size ≤ ((((wr.setCell ⟨b, o, none⟩ (.int .i64 (-3))).setCell ⟨b, o + 1, none⟩ (.string ⟨#[]⟩)).setCell ⟨b, o + 2, none⟩ (.int .i64 0)).setCell ⟨b, o + 3, none⟩ (.int .i64 0)).heap.size) := hide (by
            have hoth : ∀ a', a' ≠ b → ((((wr.setCell ⟨b, o, none⟩ (.int .i64 (-3))).setCell ⟨b, o + 1, none⟩ (.string ⟨#[]⟩)).setCell ⟨b, o + 2, none⟩ (.int .i64 0)).setCell ⟨b, o + 3, none⟩ (.int .i64 0)).heap[a']? = wr.heap[a']? := fun a' hne => by
              rw [heap_setCell_other _ _ _ _ hne, heap_setCell_other _ _ _ _ hne, heap_setCell_other _ _ _ _ hne, heap_setCell_other _ _ _ _ hne]
            have hnb := (unhide HSD).2.2.2.2.1 _ rfl
            have hszz : wr.heap.size ≤ ((((wr.setCell ⟨b, o, none⟩ (.int .i64 (-3))).setCell ⟨b, o + 1, none⟩ (.string ⟨#[]⟩)).setCell ⟨b, o + 2, none⟩ (.int .i64 0)).setCell ⟨b, o + 3, none⟩ (.int .i64 0)).heap.size := by simp
            exact ⟨⟨_, own_set (own_set (own_set (own_set hown o (by omega) _) (o + 1) (by omega) _) (o + 2) (by omega) _) (o + 3) (by omega) _⟩,
              hk.to hszz (fun a' ha' => hoth _ (fun e => hnb.2.1 a' ha' e.symm)), hw'.to hszz (fun a' ha' => hoth _ (fun e => hnb.2.2 a' ha' e.symm)),
              (((hbel.setCell (p := ⟨b, o, none⟩) hbg _).setCell (p := ⟨b, o + 1, none⟩) hbg _).setCell (p := ⟨b, o + 2, none⟩) hbg _).setCell (p := ⟨b, o + 3, none⟩) hbg _, Nat.le_trans hsz hszz⟩)
          have HJN := hide hjn
          clear hown hk hw' hbel hsz hcell fz hcur hxl HY hjn
          go_upto_region 11 with fail
          obtain ⟨wS, hwS⟩ : ∃ wS, wS = (((wr.setCell ⟨b, o, none⟩ (.int .i64 (-3))).setCell ⟨b, o + 1, none⟩ (.string ⟨#[]⟩)).setCell ⟨b, o + 2, none⟩ (.int .i64 0)).setCell ⟨b, o + 3, none⟩ (.int .i64 0) := ⟨_, rfl⟩
          rw [← hwS] at HN ⊢
          clear hwS c0 c1 c2 c3 f0 f1 f2 f3
          go_wp2_with fail
          go_roundw
          case rel => exact ⟨j + 1, by go_num, unhide HJN, HN⟩
          case measure => have := unhide HJN; simp [intOf]; omega
        · have k1 : ¬ (j : Int) < (n : Int) := by omega
          have HZ0 : Hid (∃ xs, wr.ownsRow G 29 4 (.slice lo n cl) n xs ∧ TR wr ko ts ∧ TR wr wo ts ∧ Below G wz wr ∧ (∀ g, (Value.slice lo n cl).ownBlock = some g → (∀ a', ko = some a' → g ≠ a'.block) ∧ (∀ a', wo = some a' → g ≠ a'.block)) ∧ (∀ a', ko = some a' → a'.block < wr.heap.size) ∧ (∀ a', wo = some a' → a'.block < wr.heap.size)) := hide (by
            obtain ⟨⟨xs, hown⟩, hk, hw', hbel, hsz⟩ := unhide HY
            obtain ⟨_, _, _, _, h5, h6, h7⟩ := unhide HSD
            refine ⟨xs, hown, hk, hw', hbel, fun g hg => ?_, fun a' ha' => Nat.lt_of_lt_of_le (h6 a' ha') hsz, fun a' ha' => Nat.lt_of_lt_of_le (h7 a' ha') hsz⟩
            cases lo with
            | none => cases hg
            | some a =>
              simp only [Value.ownBlock, Option.some.injEq] at hg
              subst hg
              exact ⟨fun a' ha' => (h5 a rfl).2.1 a' ha', fun a' ha' => (h5 a rfl).2.2 a' ha'⟩)
          clear HY
          go_wp2_with fail
          go_loopw [4, 14] (fun v x wq => ∃ (j m : Nat), x = .int .i64 (j : Int) ∧ j ≤ 9 ∧ m ≤ 8193 + j ∧ Hid (∃ xs, wq.ownsRow G 29 4 v m xs ∧ TR wq ko ts ∧ TR wq wo ts ∧ Below G wz wq ∧ (∀ g, v.ownBlock = some g → (∀ a', ko = some a' → g ≠ a'.block) ∧ (∀ a', wo = some a' → g ≠ a'.block)) ∧ (∀ a', ko = some a' → a'.block < wq.heap.size) ∧ (∀ a', wo = some a' → a'.block < wq.heap.size))) (fun _ x _ => 9 - (intOf x).toNat)
          case atStart => exact ⟨0, n, rfl, by omega, by omega, HZ0⟩
          case round =>
            clear HZ0
            obtain ⟨j, m, rfl, hj9, hm, HY⟩ := hrel
            obtain ⟨q8, p8, rfl, hsl⟩ := slice_form (unhide HY).choose_spec.1
            clear hsl
            have hGw : G ≤ wr.heap.size := by
              have h := (unhide HY).choose_spec.2.2.2.1.size
              have h2 := unhide HGZ
              omega
            by_cases hjl : j < 9
            · have k2 : (j : Int) < 9 := by omega
              have HJL := hide hjl
              obtain ⟨xs, hown, hk, hw', hbel, hnb, hkb, hwb⟩ := unhide HY
              have HOW := hide hown
              have HOT := hide (And.intro hk (And.intro hw' (And.intro hbel (And.intro hnb (And.intro hkb hwb)))))
              clear hown hk hw' hbel hnb hkb hwb HY hjl
              have tokB : True := trivial
              go_upto_region 15 with (first | (have _t := tokB; at_builtin; refine wpl_oneG rfl (.tmp 86) (.tmp 88) 23 29 it (.agg #[.int .i64 0, .string ⟨#[]⟩, .int .i64 0, .int .i64 0]) 4 40 Tryd.underlying23 (unhide HI).1 (unhide HI).2.1 (unhide HI).2.2.1 (unhide HI).2.2.2 rfl (by omega) rfl G m (.slice q8 m p8) xs [.int .i64 (-3), .string ⟨#[]⟩, .int .i64 0, .int .i64 0] rfl (by simp [Value.oneCell']) rfl (unhide HOW) rfl (by unfold maxLen; omega) (by omega) hGw ?_; intro v8 w8 H8; clear tokB))
              have HN : Hid (∃ xs, w8.ownsRow G 29 4 v8 (m + 1) xs ∧ TR w8 ko ts ∧ TR w8 wo ts ∧ Below G wz w8 ∧ (∀ g, v8.ownBlock = some g → (∀ a', ko = some a' → g ≠ a'.block) ∧ (∀ a', wo = some a' → g ≠ a'.block)) ∧ (∀ a', ko = some a' → a'.block < w8.heap.size) ∧ (∀ a', wo = some a' → a'.block < w8.heap.size)) := hide (by
                obtain ⟨h1, h2, h3⟩ := unhide H8
                obtain ⟨hk, hw', hbel, hnb, hkb, hwb⟩ := unhide HOT
                have hg : Below G wr w8 := (Below.refl _ _).grown h2 hGw (fun k e => ((unhide HOW).lt k e).1)
                have hoth : ∀ a', a' < wr.heap.size → (∀ g, (Value.slice q8 m p8).ownBlock = some g → g ≠ a') → w8.heap[a']? = wr.heap[a']? := fun a' hlt hne => h2.block a' hlt (fun e => hne a' e.symm rfl)
                refine ⟨_, h1, hk.to hg.size (fun a' ha' => hoth _ (hkb a' ha') (fun g hgg => (hnb g hgg).1 a' ha')), hw'.to hg.size (fun a' ha' => hoth _ (hwb a' ha') (fun g hgg => (hnb g hgg).2 a' ha')), hbel.trans hg, fun g hgg => ?_, fun a' ha' => Nat.lt_of_lt_of_le (hkb a' ha') hg.size, fun a' ha' => Nat.lt_of_lt_of_le (hwb a' ha') hg.size⟩
                rcases h3 g hgg with e | e
                · exact hnb g e
                · exact ⟨fun a' ha' => by have := hkb a' ha'; omega, fun a' ha' => by have := hwb a' ha'; omega⟩)
              clear H8
              go_wp2_with fail
              go_roundw
              case rel => exact ⟨j + 1, m + 1, by go_num, by have := unhide HJL; omega, by omega, HN⟩
              case measure => have := unhide HJL; simp [intOf]; omega
            · have k2 : ¬ (j : Int) < 9 := by omega
              obtain ⟨xs, hown, hk, hw', hbel, hnb, hkb, hwb⟩ := unhide HY
              have CS2 := hide (unhide CSM ko wo ck cw wr hck hcw hk hw')
              have HBF := hide hbel
              clear hown hk hw' hbel hnb hkb hwb HY
              go_wp2_with fail
              refine (unhide CS2).mono ?_
              rintro e uE ⟨rfl, q, hq⟩
              have HBE : Hid (Below w.heap.size w uE) := hide (by
                have hb : Below wr.heap.size wr uE := by rw [hq]; exact below_drewN' q wr
                exact unhide HWC uE ((unhide HBF).trans (hb.mono hGw)))
              clear hq CS2 HBF
              go_wp2_with fail
              go_roundw
              case rel => exact ⟨i + 1, by go_num, unhide HLT, HBE⟩
              case measure => have := unhide HLT; simp [intOf]; omega
    · have j1 : ¬ (i : Int) < (len : Int) := by omega
      have CS := hide (shown_any wz (unhide HEV wz (unhide HB)).1 (unhide HEV wz (unhide HB)).2)
      go_wp2_with fail
      refine (unhide CS).mono ?_
      rintro e uA ⟨rfl, b1⟩
      have HB1 : Hid (Below w.heap.size w uA) := hide ((unhide HB).trans (b1.mono (unhide HB).size))
      clear b1
      go_wp2_with fail
      go_ret
      exact ⟨rfl, unhide HB1⟩
end Go.Proofs.YtnflbgejjgjpcaaDoor
