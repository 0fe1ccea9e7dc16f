/-
  The document's store: rows put together anew; off, lay, note; conditions: the form's own reach.
-/
import Derived.Test.YtdaooapfokhfcaaGreatA39
import Derived.Maps.AppendAt
import Derived.Lib.AppendZeros
namespace Go.Proofs.YtdaooapfokhfcaaGreat
open Go.RowKit
set_option linter.unusedVariables false
set_option linter.unusedSimpArgs false

/-- a piece of a row, as a source -/
def Pie (w : World) (sx : Value) (ys : List (ByteArray × ThV)) : Prop := (sx = .slice none 0 0 ∧ ys = []) ∨ ∃ a c, sx = .slice (some a) ys.length c ∧ ∀ j u, (cellsV ys)[j]? = some u → w.cell? (a.add j) = some u

theorem app_ents {w : World} {lo n : Nat} {v sx : Value} {xs ys : List (ByteArray × ThV)} (hown : w.ownsRow lo 77 6 v n (cellsV xs)) (hs : Pie w sx ys) (hb : n + ys.length ≤ 100000) (hlo : lo ≤ w.heap.size) :
    ∃ v' w', (Builtin.append_ #[38, 38] 38 #[v, sx]).run Tryz.prog w = .ok v' w' ∧ w'.ownsRow lo 77 6 v' (n + ys.length) (cellsV (xs ++ ys)) ∧ w.grownBy w' v.ownBlock ∧ (v'.ownBlock = v.ownBlock ∨ v'.ownBlock = some w.heap.size) := by
  obtain ⟨iv, hiv, hz0, hz1, hz2⟩ := info_parts infoEr
  rcases hs with ⟨rfl, rfl⟩ | ⟨a, c, rfl, hc⟩
  · refine ⟨v, w, run_append_owned_none (P := Tryz.prog) (w := w) lo _ _ _ iv 6 Tryz.underlying38 hiv v n _ hown, ?_, World.grownBy.refl _ _, .inl rfl⟩
    simpa using hown
  · obtain ⟨v', w', e1, e2, e3, e4, e5⟩ := run_append_own_at (P := Tryz.prog) w lo 38 38 77 iv _ 6 96 Tryz.underlying38 hiv hz0 hz1 hz2 rfl (by omega) v n (cellsV xs) hown a ys.length c (cellsV ys) (cellsV_len ys) hc (cellsV_one ys) (by unfold maxLen; omega) (by omega) hlo
    refine ⟨v', w', e1, ?_, e3, e5⟩
    rw [cellsV_app]
    exact e2

section
variable {w w' : World} {V V' : Nat → Prop} {t t' : Rx}

theorem add_zero' (a : Addr) : a.add 0 = a := rfl

/-- the pieces of its row -/
theorem Rto.pie (h : Rto w V t) {ao : Option Addr} {n cap : Nat} (hlv : t.lv = .slice ao n cap) (i m : Nat) (him : i + m ≤ n) (hn : t.lx.length = n) (x : Option Addr) (c : Nat) (hx : x = if cap = i then ao else ao.map (·.add (i * 6))) : Pie w (.slice x m c) (((mapK Prod.fst t.lx).drop i).take m) ∨ (x = none ∧ m = 0) := by
  have hr := h.row
  rw [hlv, hn] at hr
  have hll : (mapK Prod.fst t.lx).length = n := by rw [mapK_len]; exact hn
  have hlen : (((mapK Prod.fst t.lx).drop i).take m).length = m := by
    rw [List.length_take, List.length_drop, hll]
    omega
  rcases hr.2 with ⟨e, e2⟩ | ⟨b, c2, cur, e, hb, hg, hc, hm, hs, ht⟩
  · cases e
    right
    refine ⟨?_, by omega⟩
    rw [hx]
    split <;> rfl
  · cases e
    left
    right
    by_cases hci : cap = i
    · rw [if_pos hci] at hx
      have hm0 : m = 0 := by omega
      subst hm0
      refine ⟨_, c, by rw [hx, hlen], fun j u hu => ?_⟩
      simp [cellsV] at hu
    · rw [if_neg hci] at hx
      refine ⟨_, c, by rw [hx, hlen]; rfl, fun j u hu => ?_⟩
      have hj : j < m * 6 := by
        have := (List.getElem?_eq_some_iff.1 hu).1
        rw [cellsV_len, hlen] at this
        exact this
      rw [cellsV_take _ _ (by rw [List.length_drop, hll]; omega), cellsV_drop _ _ (by rw [hll]; omega), List.getElem?_take_of_lt hj, List.getElem?_drop] at hu
      have h3 := hr.cells (show (Value.slice (some ⟨b, 0, none⟩) n cap).ownBlock = some b from rfl) _ _ hu
      rw [add_offR, Nat.zero_add] at h3
      show w.cell? (((⟨b, 0, none⟩ : Addr).add (i * 6)).add j) = some u
      rw [add_offR, add_offR, Nat.zero_add]
      exact h3

set_option maxRecDepth 100000 in
set_option maxHeartbeats 800000 in
theorem off_any (h : Rto w V t) (hl : t.lx.length ≤ 1000) (hr : Rk t.lx) (k : ByteArray) :
    Calls Tryz.prog 72 #[.pointer (some ⟨t.r, 0, none⟩), .string k] w fun e w' => (∃ r, e = .returned r) ∧ ∃ lv', Rto w' V { t with lv := lv', lx := delK t.lx k } ∧ RAdv w w' V V t { t with lv := lv', lx := delK t.lx k } := by
  have CP := place_any h k
  cases hO : lookK t.lx k with
  | none =>
    rw [decide_eq_false ((look_none_at t.lx k hr).1 hO)] at CP
    have HQ : Hid (∀ q, ∃ lv', Rto (w.drewN q) V { t with lv := lv', lx := delK t.lx k } ∧ RAdv w (w.drewN q) V V t { t with lv := lv', lx := delK t.lx k }) := hide (fun q => by
      have hb : Below w.heap.size w (w.drewN q) := ⟨rfl, rfl, rfl, Nat.le_refl _, fun _ _ => rfl⟩
      rw [del_none _ _ hO]
      exact ⟨t.lv, h.later hb, RAdv.of' hb t V⟩)
    have CP := hide CP
    obtain ⟨L, hL⟩ : ∃ L, lowK t.lx k = L := ⟨_, rfl⟩
    rw [hL] at CP
    clear h hr hO hL hl
    obtain ⟨r, lv, lx, uv, us, mv, ms⟩ := t
    dsimp only at CP HQ ⊢
    go_enter Tryz.func72, Tryz.ntmps72
    go_wp2_with fail
    refine (unhide CP).mono ?_
    rintro e u1 ⟨rfl, q, rfl⟩
    go_wp2_with fail
    go_end0
    exact ⟨⟨_, rfl⟩, unhide HQ q⟩
  | some x =>
    have hat := (look_at t.lx k hr x).1 hO
    have hst : (t.lx.map Prod.fst)[lowK t.lx k]? = some k := by rw [List.getElem?_map, hat]; rfl
    rw [decide_eq_true hst] at CP
    have CP := hide CP
    have hdel := del_at t.lx k hst
    obtain ⟨L, hL⟩ : ∃ L, lowK t.lx k = L := ⟨_, rfl⟩
    rw [hL] at CP hat hdel
    have hlt : L < t.lx.length := (List.getElem?_eq_some_iff.1 hat).1
    obtain ⟨ao, cap, hlv, hcap, hmax, hnone, hplain, hsome⟩ := h.shape
    obtain ⟨b, rfl, hbl, -⟩ := hsome L _ hat
    obtain ⟨n, hn⟩ : ∃ n, t.lx.length = n := ⟨_, rfl⟩
    rw [hn] at hlt hcap hlv hl
    have c0 := h.c0
    rw [hlv] at c0
    obtain ⟨x2, hx2⟩ : ∃ x2, x2 = if cap = L + 1 then (some ⟨b, 0, none⟩ : Option Addr) else (some ⟨b, 0, none⟩ : Option Addr).map (·.add ((L + 1) * 6)) := ⟨_, rfl⟩
    -- both appends, in whatever world is drawn
    have HA : Hid (∀ q, ∃ v2 w2 v3 w3, (Builtin.append_ #[38, 38] 38 #[.slice none 0 0, .slice (some ⟨b, 0, none⟩) L cap]).run Tryz.prog (w.drewN q) = .ok v2 w2 ∧ (Builtin.append_ #[38, 38] 38 #[v2, .slice x2 (n - (L + 1)) (cap - (L + 1))]).run Tryz.prog w2 = .ok v3 w3 ∧ w2.cell? ⟨t.r, 0, none⟩ = some (.slice (some ⟨b, 0, none⟩) n cap) ∧ w3.cell? ⟨t.r, 0, none⟩ = some (.slice (some ⟨b, 0, none⟩) n cap) ∧ w3.frozen? ⟨t.r, 0, none⟩ = false ∧ (∃ a3 m3 c3, v3 = .slice a3 m3 c3) ∧ Rto (w3.setCell ⟨t.r, 0, none⟩ v3) V { t with lv := v3, lx := delK t.lx k } ∧ RAdv w (w3.setCell ⟨t.r, 0, none⟩ v3) V V t { t with lv := v3, lx := delK t.lx k }) := hide (fun q => by
      have hb1 : Below w.heap.size w (w.drewN q) := ⟨rfl, rfl, rfl, Nat.le_refl _, fun _ _ => rfl⟩
      have h1 := h.later hb1
      have p1 : Pie (w.drewN q) (.slice (some ⟨b, 0, none⟩) L cap) ((mapK Prod.fst t.lx).take L) := by
        rcases h1.pie hlv 0 L (by omega) hn (some ⟨b, 0, none⟩) cap (by split <;> rfl) with hp | ⟨e, _⟩
        · exact hp
        · cases e
      have hll : (mapK Prod.fst t.lx).length = n := by rw [mapK_len]; exact hn
      have l1 : ((mapK Prod.fst t.lx).take L).length = L := by rw [List.length_take, hll]; omega
      obtain ⟨v2, w2, r2, o2, g2, a2⟩ := app_ents (World.ownsRow_nil (w := w.drewN q) w.heap.size 77 6 |> fun h => (show (w.drewN q).ownsRow w.heap.size 77 6 (.slice none 0 0) 0 (cellsV []) from h)) p1 (by rw [l1]; omega) (Nat.le_refl _)
      have b2 : Below w.heap.size w w2 := hb1.trans ⟨g2.os, g2.tape, g2.output, g2.size, fun j hj => g2.block j hj (by simp [Value.ownBlock])⟩
      have h2 := h.later b2
      have p2 : Pie w2 (.slice x2 (n - (L + 1)) (cap - (L + 1))) ((mapK Prod.fst t.lx).drop (L + 1)) := by
        rcases h2.pie hlv (L + 1) (n - (L + 1)) (by omega) hn x2 (cap - (L + 1)) hx2 with hp | ⟨e, _⟩
        · rwa [List.take_of_length_le (by rw [List.length_drop, hll]; exact Nat.le_refl _)] at hp
        · rw [e] at hx2
          split at hx2 <;> cases hx2
      have l2 : ((mapK Prod.fst t.lx).drop (L + 1)).length = n - (L + 1) := by rw [List.length_drop, hll]
      rw [l1, List.nil_append, Nat.zero_add] at o2
      obtain ⟨v3, w3, r3, o3, g3, a3⟩ := app_ents o2 p2 (by rw [l2]; omega) b2.size
      have b3 : Below w.heap.size w w3 := b2.grown g3 b2.size (fun j hj => (o2.lt j hj).1)
      have h3 := h.later b3
      have hdl : mapK Prod.fst (delK t.lx k) = (mapK Prod.fst t.lx).take L ++ (mapK Prod.fst t.lx).drop (L + 1) := by
        rw [← hdel, List.eraseIdx_eq_take_drop_succ]
        simp [mapK]
      have hdn : (delK t.lx k).length = L + (n - (L + 1)) := by
        rw [← hdel, List.length_eraseIdx_of_lt (by omega)]
        omega
      rw [l2] at o3
      obtain ⟨ra, rb⟩ := h.turnL (lv' := v3) (lx' := delK t.lx k) (V1 := V) b3 (by rw [hdn, hdl]; exact o3) (fun p hp => h3.ok p (del_mem hp)) (fun _ e => e) (fun j hj => .inl hj)
      have e2 := h2.c0
      have e3 := h3.c0
      rw [hlv] at e2 e3
      refine ⟨v2, w2, v3, w3, r2, r3, e2, e3, frozen_of_row w3 t.r 0 _ _ h3.box, ?_, ra, rb⟩
      rcases o3.2 with ⟨rfl, _⟩ | ⟨_, _, _, rfl, _⟩ <;> exact ⟨_, _, _, rfl⟩)
    have i1 : (L : Int) ≤ (cap : Int) := by omega
    have i2 : (0 : Int) ≤ (L : Int) := by omega
    have i3 : ((L + 1 : Nat) : Int) ≤ (n : Int) := by omega
    have i4 : (n : Int) ≤ (cap : Int) := by omega
    have w1 : IntKind.i64.wrap ((L : Int) + 1) = ((L + 1 : Nat) : Int) := by rw [IntKind.wrap_i64]; omega
    have tokA : True := trivial
    have tokB : True := trivial
    clear h hr hO hL hst hat hlv hsome hplain hnone hn hdel hbl
    obtain ⟨r, lv, lx, uv, us, mv, ms⟩ := t
    dsimp only at CP c0 HA ⊢
    by_cases hci : cap = L + 1
    · rw [if_pos hci] at hx2
      subst hx2
      obtain rfl : n = L + 1 := by omega
      subst hci
      rw [Nat.sub_self] at HA
      go_enter Tryz.func72, Tryz.ntmps72
      go_wp2_with fail
      refine (unhide CP).mono ?_
      rintro e u1 ⟨rfl, q, rfl⟩
      have c1 : (w.drewN q).cell? ⟨r, 0, none⟩ = some (.slice (some ⟨b, 0, none⟩) (L + 1) (L + 1)) := c0
      obtain ⟨v2, w2, v3, w3, r2, r3, e2, e3, f3, ⟨a3, m3, c3, rfl⟩, ra, rb⟩ := unhide HA q
      have HR := hide (And.intro ra rb)
      clear ra rb HA CP c0
      go_wp2_with (first | (have _t := tokA; at_builtin; refine Go.Lib.wpList_append_run _ rfl (.tmp 14) (.tmp 20) 38 38 rfl _ _ rfl rfl v2 w2 r2 ?_; clear tokA r2 c1) | (have _t := tokB; at_builtin; refine Go.Lib.wpList_append_run _ rfl (.tmp 23) (.tmp 30) 38 38 rfl _ _ rfl rfl (.slice a3 m3 c3) w3 r3 ?_; clear tokB r3 e2))
      go_end0
      exact ⟨⟨_, rfl⟩, _, unhide HR⟩
    · rw [if_neg hci] at hx2
      have hx3 : x2 = some ⟨b, (L + 1) * 6, none⟩ := by
        rw [hx2]
        show some ((⟨b, 0, none⟩ : Addr).add ((L + 1) * 6)) = _
        rw [add_offR, Nat.zero_add]
      rw [hx3] at HA
      clear hx2 hx3
      go_enter Tryz.func72, Tryz.ntmps72
      go_wp2_with fail
      refine (unhide CP).mono ?_
      rintro e u1 ⟨rfl, q, rfl⟩
      have c1 : (w.drewN q).cell? ⟨r, 0, none⟩ = some (.slice (some ⟨b, 0, none⟩) n cap) := c0
      obtain ⟨v2, w2, v3, w3, r2, r3, e2, e3, f3, ⟨a3, m3, c3, rfl⟩, ra, rb⟩ := unhide HA q
      have HR := hide (And.intro ra rb)
      clear ra rb HA CP c0
      go_wp2_with (first | (have _t := tokA; at_builtin; refine Go.Lib.wpList_append_run _ rfl (.tmp 14) (.tmp 20) 38 38 rfl _ _ rfl rfl v2 w2 r2 ?_; clear tokA r2 c1) | (have _t := tokB; at_builtin; refine Go.Lib.wpList_append_run _ rfl (.tmp 23) (.tmp 30) 38 38 rfl _ _ rfl rfl (.slice a3 m3 c3) w3 r3 ?_; clear tokB r3 e2))
      go_end0
      exact ⟨⟨_, rfl⟩, _, unhide HR⟩
end
end Go.Proofs.YtdaooapfokhfcaaGreat
