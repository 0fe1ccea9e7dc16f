/-
  The document's store: a row of entries built of three pieces; lay; conditions: the form's own reach.
  The document's store: note as one; Put; conditions: the form's own reach.
-/
import Derived.Test.YtdaooapfokhfcaaGreatA41
import Derived.Test.YtdaooapfokhfcaaGreatA36
namespace Go.Proofs.YtdaooapfokhfcaaGreat
open Go.RowKit
set_option linter.unusedVariables false
set_option linter.unusedSimpArgs false

section
variable {w w' : World} {V V' : Nat → Prop} {t t' : Rx}

/-- the pieces of its row, none left out -/
theorem Rto.pie' (h : Rto w V t) {ao : Option Addr} {n cap : Nat} (hlv : t.lv = .slice ao n cap) (i m : Nat) (him : i + m ≤ n) (hn : t.lx.length = n) (x : Option Addr) (hx : x = if cap = i then ao else ao.map (·.add (i * 6))) : Pie w (.slice x m (cap - i)) (((mapK Prod.fst t.lx).drop i).take m) := by
  rcases h.pie hlv i m him hn x (cap - i) hx with hp | ⟨e, e2⟩
  · exact hp
  · subst e
    subst e2
    have hr := h.row
    rw [hlv, hn] at hr
    rcases hr.2 with ⟨e, e3⟩ | ⟨b, c2, cur, e, hb, hg, hc, hm, hs, ht⟩
    · cases e
      left
      exact ⟨by rw [Nat.zero_sub], by simp⟩
    · cases e
      split at hx <;> cases hx

/-- the first piece -/
theorem Rto.first (h : Rto w V t) {ao : Option Addr} {n cap : Nat} (hlv : t.lv = .slice ao n cap) (hn : t.lx.length = n) (hl : n ≤ 1000) (L : Nat) (hL : L ≤ n) (w1 : World) (hb : Below w.heap.size w w1) :
    ∃ v2 w2, (Builtin.append_ #[38, 38] 38 #[.slice none 0 0, .slice ao L cap]).run Tryz.prog w1 = .ok v2 w2 ∧ w2.ownsRow w1.heap.size 77 6 v2 L (cellsV ((mapK Prod.fst t.lx).take L)) ∧ Below w1.heap.size w1 w2 := by
  have h1 := h.later hb
  have p1 : Pie w1 (.slice ao L cap) ((mapK Prod.fst t.lx).take L) := by
    have := h1.pie' hlv 0 L (by omega) hn ao (by
      split
      · rfl
      · cases ao <;> rfl)
    rwa [Nat.sub_zero] at this
  have l1 : ((mapK Prod.fst t.lx).take L).length = L := by rw [List.length_take, mapK_len, hn]; omega
  obtain ⟨v2, w2, r2, o2, g2, a2⟩ := app_ents (World.ownsRow_nil (w := w1) w1.heap.size 77 6 |> fun h => (show w1.ownsRow w1.heap.size 77 6 (.slice none 0 0) 0 (cellsV []) from h)) p1 (by rw [l1]; omega) (Nat.le_refl _)
  rw [l1, List.nil_append, Nat.zero_add] at o2
  exact ⟨v2, w2, r2, o2, ⟨g2.os, g2.tape, g2.output, g2.size, fun j hj => g2.block j hj (by simp [Value.ownBlock])⟩⟩

/-- the second and the third piece -/
theorem Rto.rest (h : Rto w V t) {ao : Option Addr} {n cap : Nat} (hlv : t.lv = .slice ao n cap) (hn : t.lx.length = n) (hl : n ≤ 1000) (L I : Nat) (hL : L ≤ n) (hI : I ≤ n) (x2 : Option Addr) (hx : x2 = if cap = I then ao else ao.map (·.add (I * 6))) (w2 : World) (hb : Below w.heap.size w w2) (v2 : Value) (lo : Nat) (hlo : w.heap.size ≤ lo) (hlo2 : lo ≤ w2.heap.size) (o2 : w2.ownsRow lo 77 6 v2 L (cellsV ((mapK Prod.fst t.lx).take L))) (k : ByteArray) (c0 c1 : Int) (c2 : ByteArray) (c3 : Option Addr) (c4 c5 : Nat) (c6 : Option Addr) (c7 c8 : Nat) :
    ∃ v3 w3 v4 w4, (Builtin.append_ #[38, 38] 38 #[v2, .slice (some ⟨w2.heap.size, 0, none⟩) 1 1]).run Tryz.prog (w2.alloc (.cells #[.string k, .int .i64 c0, .int .i64 c1, .string c2, .slice c3 c4 c5, .slice c6 c7 c8] 77)) = .ok v3 w3 ∧ (Builtin.append_ #[38, 38] 38 #[v3, .slice x2 (n - I) (cap - I)]).run Tryz.prog w3 = .ok v4 w4 ∧ Below lo w2 w3 ∧ Below lo w2 w4 ∧ (∃ a4 c4, v4 = .slice a4 (L + 1 + (n - I)) c4) ∧ (∀ b, v4.ownBlock = some b → v2.ownBlock = some b ∨ w2.heap.size ≤ b) ∧ (∀ j, j < w2.heap.size → v2.ownBlock ≠ some j → w4.heap[j]? = w2.heap[j]?) ∧ w4.ownsRow lo 77 6 v4 (L + 1 + (n - I)) (cellsV ((mapK Prod.fst t.lx).take L ++ [(k, (c0, c1, c2, c3, c4, c5, c6, c7, c8))] ++ (mapK Prod.fst t.lx).drop I)) := by
  obtain ⟨wa, hwa⟩ : ∃ wa, w2.alloc (.cells #[.string k, .int .i64 c0, .int .i64 c1, .string c2, .slice c3 c4 c5, .slice c6 c7 c8] 77) = wa := ⟨_, rfl⟩
  have ba : Below w2.heap.size w2 wa := by rw [← hwa]; exact (Below.refl _ _).alloc (Nat.le_refl _) _
  have na : wa.heap[w2.heap.size]? = some (.cells #[.string k, .int .i64 c0, .int .i64 c1, .string c2, .slice c3 c4 c5, .slice c6 c7 c8] 77 (0, 0)) := by rw [← hwa]; exact heap_alloc_new w2 _
  rw [hwa]
  have oa := row_to o2 (fun b hb => ba.block b (o2.lt b hb).2)
  have p1 : Pie wa (.slice (some ⟨w2.heap.size, 0, none⟩) 1 1) [(k, (c0, c1, c2, c3, c4, c5, c6, c7, c8))] := .inr ⟨_, _, rfl, fun j u hu => by
    rw [add_offR, Nat.zero_add, cell_of_row wa w2.heap.size j _ _ (0, 0) na]
    rw [List.getElem?_toArray]; exact hu⟩
  obtain ⟨v3, w3, r3, o3, g3, a3⟩ := app_ents oa p1 (by simp; omega) (Nat.le_trans hlo2 ba.size)
  have b3 : Below lo w2 w3 := (ba.mono hlo2).grown g3 (Nat.le_trans hlo2 ba.size) (fun j hj => (oa.lt j hj).1)
  have h3 := h.later (hb.trans (b3.mono hlo))
  have p2 : Pie w3 (.slice x2 (n - I) (cap - I)) ((mapK Prod.fst t.lx).drop I) := by
    have := h3.pie' hlv I (n - I) (by omega) hn x2 hx
    rwa [List.take_of_length_le (by rw [List.length_drop, mapK_len, hn]; exact Nat.le_refl _)] at this
  have l2 : ((mapK Prod.fst t.lx).drop I).length = n - I := by rw [List.length_drop, mapK_len, hn]
  obtain ⟨v4, w4, r4, o4, g4, a4⟩ := app_ents o3 p2 (by rw [l2]; simp; omega) (Nat.le_trans hlo2 b3.size)
  rw [l2] at o4
  refine ⟨v3, w3, v4, w4, r3, r4, b3, b3.grown g4 (Nat.le_trans hlo2 b3.size) (fun j hj => (o3.lt j hj).1), ?_, fun b hb => ?_, fun j hj hne => ?_, o4⟩
  · rcases o4.2 with ⟨rfl, e0⟩ | ⟨_, c, _, rfl, _⟩
    · simp at e0
    · exact ⟨_, _, rfl⟩
  · have s1 := ba.size
    have s3 := g3.size
    rcases a4 with e | e
    · rcases a3 with e2 | e2
      · exact .inl (by rw [← e2, ← e]; exact hb)
      · rw [e, e2] at hb
        cases hb
        exact .inr s1
    · rw [e] at hb
      cases hb
      exact .inr (by omega)
  · have s1 := ba.size
    refine (g4.block j (by have := g3.size; omega) (fun e => ?_)).trans ((g3.block j (by omega) (fun e => hne e.symm)).trans (ba.block j hj))
    rcases a3 with e2 | e2
    · exact hne (by rw [← e2, ← e])
    · rw [e2] at e
      cases e
      omega

theorem put_cut (l : List (ByteArray × (ThV × Vl))) (k : ByteArray) (c : ThV) (y : Vl) (hr : Rk l) (I : Nat) (hI : I = if (l.map Prod.fst)[lowK l k]? = some k then lowK l k + 1 else lowK l k) :
    mapK Prod.fst (putK l k (c, y)) = (mapK Prod.fst l).take (lowK l k) ++ [(k, c)] ++ (mapK Prod.fst l).drop I ∧ (putK l k (c, y)).length = lowK l k + 1 + (l.length - I) := by
  have key : putK l k (c, y) = l.take (lowK l k) ++ (k, (c, y)) :: l.drop I := by
    split at hI
    · rename_i hs
      rw [← put_old l k _ hs, hI]
      have hlt : lowK l k < l.length := by
        have := (List.getElem?_eq_some_iff.1 hs).1
        simpa using this
      rw [List.set_eq_take_append_cons_drop, if_pos hlt]
    · rename_i hs
      rw [← put_new l k _ hs, hI]
  refine ⟨by rw [key]; simp [mapK], ?_⟩
  rw [key, List.length_append, List.length_cons, List.length_take, List.length_drop, Nat.min_eq_left (low_le l k)]
  omega

set_option maxRecDepth 100000 in
set_option maxHeartbeats 1600000 in
theorem lay_ref (h : Rto w V t) (hl : t.lx.length ≤ 1000) (hr : Rk t.lx) (k : ByteArray) (c : ThV) (y : Vl) (hy : IsP w V y (.agg (thV c).toArray)) :
    Calls Tryz.prog 73 #[.pointer (some ⟨t.r, 0, none⟩), .string k, .agg (thV c).toArray] w fun e w' => (∃ r, e = .returned r) ∧ ∃ lv', Rto w' V { t with lv := lv', lx := putK t.lx k (c, y) } ∧ RAdv w w' V V t { t with lv := lv', lx := putK t.lx k (c, y) } := by
  obtain ⟨c0, c1, c2, c3, c4, c5, c6, c7, c8⟩ := c
  obtain ⟨L, hL⟩ : ∃ L, lowK t.lx k = L := ⟨_, rfl⟩
  have hLe : L ≤ t.lx.length := by rw [← hL]; exact low_le _ _
  obtain ⟨ao, cap, hlv, hcap, hmax, hnone, hplain, hsome⟩ := h.shape
  obtain ⟨n, hn⟩ : ∃ n, t.lx.length = n := ⟨_, rfl⟩
  rw [hn] at hLe hcap hlv hl
  obtain ⟨wb, hwb⟩ : ∃ wb, w.alloc (.cells #[.int .i64 c0, .int .i64 c1, .string c2, .slice c3 c4 c5, .slice c6 c7 c8] 32) = wb := ⟨_, rfl⟩
  have bb : Below w.heap.size w wb := by rw [← hwb]; exact (Below.refl _ _).alloc (Nat.le_refl _) _
  have nb : wb.heap[w.heap.size]? = some (.cells #[.int .i64 c0, .int .i64 c1, .string c2, .slice c3 c4 c5, .slice c6 c7 c8] 32 (0, 0)) := by rw [← hwb]; exact heap_alloc_new w _
  have sb : w.heap.size < wb.heap.size := (Array.getElem?_eq_some_iff.1 nb).1
  have CP := place_any (h.later bb) k
  rw [hL] at CP
  obtain ⟨iz, hiz⟩ : ∃ iz : Bool, decide ((t.lx.map Prod.fst)[L]? = some k) = iz := ⟨_, rfl⟩
  rw [hiz] at CP
  have CPH := hide CP
  clear CP
  obtain ⟨I, hI⟩ : ∃ I, I = if (t.lx.map Prod.fst)[lowK t.lx k]? = some k then lowK t.lx k + 1 else lowK t.lx k := ⟨_, rfl⟩
  obtain ⟨hpl, hpn⟩ := put_cut t.lx k (c0, c1, c2, c3, c4, c5, c6, c7, c8) y hr I hI
  rw [hL] at hpl hpn hI
  rw [hn] at hpn
  have hII : (iz = true → I = L + 1 ∧ I ≤ n) ∧ (iz = false → I = L) := by
    split at hI
    · rename_i hs
      have hlt : L < n := by
        have := (List.getElem?_eq_some_iff.1 hs).1
        rw [← hn]
        simpa using this
      rw [decide_eq_true hs] at hiz
      subst hiz
      exact ⟨fun _ => ⟨hI, by omega⟩, fun e => by cases e⟩
    · rename_i hs
      rw [decide_eq_false hs] at hiz
      subst hiz
      exact ⟨(fun e => by cases e), fun _ => hI⟩
  have hIn : I ≤ n := by
    cases iz with
    | true => exact (hII.1 rfl).2
    | false => rw [hII.2 rfl]; exact hLe
  have c0' := h.c0
  rw [hlv] at c0'
  obtain ⟨x2, hx2⟩ : ∃ x2, x2 = if cap = I then ao else ao.map (·.add (I * 6)) := ⟨_, rfl⟩
  have HA : Hid (∀ q, ∃ v2 w2, (Builtin.append_ #[38, 38] 38 #[.slice none 0 0, .slice ao L cap]).run Tryz.prog (wb.drewN q) = .ok v2 w2 ∧ ∃ v3 w3 v4 w4, (Builtin.append_ #[38, 38] 38 #[v2, .slice (some ⟨w2.heap.size, 0, none⟩) 1 1]).run Tryz.prog (w2.alloc (.cells #[.string k, .int .i64 c0, .int .i64 c1, .string c2, .slice c3 c4 c5, .slice c6 c7 c8] 77)) = .ok v3 w3 ∧ (Builtin.append_ #[38, 38] 38 #[v3, .slice x2 (n - I) (cap - I)]).run Tryz.prog w3 = .ok v4 w4 ∧ (∀ j v, (#[.int .i64 c0, .int .i64 c1, .string c2, .slice c3 c4 c5, .slice c6 c7 c8] : Array Value)[j]? = some v → w2.cell? ⟨w.heap.size, j, none⟩ = some v) ∧ w3.cell? ⟨t.r, 0, none⟩ = some (.slice ao n cap) ∧ w4.cell? ⟨t.r, 0, none⟩ = some (.slice ao n cap) ∧ w4.frozen? ⟨t.r, 0, none⟩ = false ∧ (∃ a3 m3 c3, v4 = .slice a3 m3 c3) ∧ Rto (w4.setCell ⟨t.r, 0, none⟩ v4) V { t with lv := v4, lx := putK t.lx k ((c0, c1, c2, c3, c4, c5, c6, c7, c8), y) } ∧ RAdv w (w4.setCell ⟨t.r, 0, none⟩ v4) V V t { t with lv := v4, lx := putK t.lx k ((c0, c1, c2, c3, c4, c5, c6, c7, c8), y) }) := hide (fun q => by
    have hq : Below wb.heap.size wb (wb.drewN q) := ⟨rfl, rfl, rfl, Nat.le_refl _, fun _ _ => rfl⟩
    have hb1 : Below w.heap.size w (wb.drewN q) := bb.trans (hq.mono bb.size)
    obtain ⟨v2, w2, r2, o2, b2⟩ := h.first hlv hn hl L hLe _ hb1
    have hb2 : Below w.heap.size w w2 := hb1.trans (b2.mono hb1.size)
    obtain ⟨v3, w3, v4, w4, r3, r4, b3, b4, ⟨a4, m4, e4⟩, -, -, o4⟩ := h.rest hlv hn hl L I hLe hIn x2 hx2 w2 hb2 v2 _ hb1.size b2.size o2 k c0 c1 c2 c3 c4 c5 c6 c7 c8
    have hb3 := hb2.trans (b3.mono hb1.size)
    have hb4 := hb2.trans (b4.mono hb1.size)
    have h3 := h.later hb3
    have h4 := h.later hb4
    obtain ⟨ra, rb⟩ := h.turnL (lv' := v4) (lx' := putK t.lx k ((c0, c1, c2, c3, c4, c5, c6, c7, c8), y)) (V1 := V) hb4 (by rw [hpn, hpl]; exact own_low o4 hb1.size) (fun p hp => by
      rcases put_mem hp with rfl | hp
      · exact hy.move (fun b hb => hb4.block b (h.vs b hb).1)
      · exact h4.ok p hp) (fun _ e => e) (fun j hj => .inl hj)
    have e3 := h3.c0
    have e4' := h4.c0
    rw [hlv] at e3 e4'
    refine ⟨v2, w2, r2, v3, w3, v4, w4, r3, r4, fun j v hv => ?_, e3, e4', frozen_of_row w4 t.r 0 _ _ h4.box, ⟨_, _, _, e4⟩, ra, rb⟩
    have n2 : w2.heap[w.heap.size]? = some (.cells #[.int .i64 c0, .int .i64 c1, .string c2, .slice c3 c4 c5, .slice c6 c7 c8] 32 (0, 0)) := (b2.block _ (show w.heap.size < wb.heap.size from sb)).trans (show wb.heap[w.heap.size]? = _ from nb)
    rw [cell_of_row w2 w.heap.size j _ _ (0, 0) n2]
    exact hv)
  have cb : ∀ q, (wb.drewN q).cell? ⟨t.r, 0, none⟩ = some (.slice ao n cap) := fun q => by
    have := ((h.later bb).later (show Below wb.heap.size wb (wb.drewN q) from ⟨rfl, rfl, rfl, Nat.le_refl _, fun _ _ => rfl⟩)).c0
    rw [hlv] at this
    exact this
  have HCB := hide cb
  have i1 : (L : Int) ≤ (cap : Int) := by omega
  have i2 : (0 : Int) ≤ (L : Int) := by omega
  have i4 : (n : Int) ≤ (cap : Int) := by omega
  have i5 : (L : Int) ≤ (n : Int) := by omega
  have w1 : IntKind.i64.wrap ((L : Int) + 1) = ((L + 1 : Nat) : Int) := by rw [IntKind.wrap_i64]; omega
  have hshape : ao = none ∨ ∃ b, ao = some ⟨b, 0, none⟩ := by
    have hr := h.row
    rw [hlv] at hr
    rcases hr.2 with ⟨e, _⟩ | ⟨b, _, _, e, _⟩
    · cases e
      exact .inl rfl
    · cases e
      exact .inr ⟨b, rfl⟩
  have hn0 : ao = none → n = 0 ∧ cap = 0 := fun e => by
    have hr := h.row
    rw [hlv, e] at hr
    rcases hr.2 with ⟨e, _⟩ | ⟨b, _, _, e, _⟩
    · cases e
      exact ⟨rfl, rfl⟩
    · cases e
  have tokA : True := trivial
  have tokB : True := trivial
  have tokC : True := trivial
  obtain ⟨B, hB⟩ : ∃ B, w.heap.size = B := ⟨_, rfl⟩
  rw [hB] at HA
  clear h hr hL hlv hsome hplain hnone hn hy hpl hpn hI hiz cb nb bb hmax c0' sb
  obtain ⟨r, lv, lx, uv, us, mv, ms⟩ := t
  dsimp only at CPH HA HCB ⊢
  simp only [thV]
  cases iz with
  | true =>
    obtain ⟨rfl, hi3⟩ := hII.1 rfl
    have i3 : ((L + 1 : Nat) : Int) ≤ (n : Int) := by omega
    rcases hshape with rfl | ⟨b, rfl⟩
    · have := (hn0 rfl).1
      omega
    clear hII hn0
    by_cases hci : cap = L + 1
    · rw [if_pos hci] at hx2
      have hx3 := hx2
      obtain rfl : n = L + 1 := by omega
      subst hci
      rw [Nat.sub_self] at HA
      rw [hx3] at HA
      clear hx2 hx3
      go_enter Tryz.func73, Tryz.ntmps73
      go_wp2_with fail
      refine (unhide CPH).mono ?_
      rintro e u1 ⟨rfl, q, rfl⟩
      have c1' := unhide HCB q
      obtain ⟨v2, w2, r2, v3, w3, v4, w4, r3, r4, hd, e3, e4, f4, ⟨a3, m3, c3', rfl⟩, ra, rb⟩ := unhide HA q
      have d0 : w2.cell? ⟨B, 0, none⟩ = some (.int .i64 c0) := hd 0 _ rfl
      have d1 : w2.cell? ⟨B, 1, none⟩ = some (.int .i64 c1) := hd 1 _ rfl
      have d2 : w2.cell? ⟨B, 2, none⟩ = some (.string c2) := hd 2 _ rfl
      have d3 : w2.cell? ⟨B, 3, none⟩ = some (.slice c3 c4 c5) := hd 3 _ rfl
      have d4 : w2.cell? ⟨B, 4, none⟩ = some (.slice c6 c7 c8) := hd 4 _ rfl
      have HR := hide (And.intro ra rb)
      clear ra rb HA CPH HCB hd
      go_wp2_with (first | (have _t := tokA; at_builtin; refine Go.Lib.wpList_append_run _ rfl (.tmp 15) (.tmp 21) 38 38 rfl _ _ rfl rfl v2 w2 r2 ?_; clear tokA r2 c1') | (have _t := tokB; at_builtin; refine Go.Lib.wpList_append_run _ rfl (.tmp 23) (.tmp 27) 38 38 rfl _ _ rfl rfl v3 w3 r3 ?_; clear tokB r3 d0 d1 d2 d3 d4) | (have _t := tokC; at_builtin; refine Go.Lib.wpList_append_run _ rfl (.tmp 33) (.tmp 39) 38 38 rfl _ _ rfl rfl (.slice a3 m3 c3') w4 r4 ?_; clear tokC r4 e3))
      go_end0
      exact ⟨⟨_, rfl⟩, _, unhide HR⟩
    · rw [if_neg hci] at hx2
      have hx3 : x2 = some ⟨b, (L + 1) * 6, none⟩ := by
        rw [hx2]
        show some ((⟨b, 0, none⟩ : Addr).add ((L + 1) * 6)) = _
        rw [add_offR, Nat.zero_add]
      rw [hx3] at HA
      clear hx2 hx3
      go_enter Tryz.func73, Tryz.ntmps73
      go_wp2_with fail
      refine (unhide CPH).mono ?_
      rintro e u1 ⟨rfl, q, rfl⟩
      have c1' := unhide HCB q
      obtain ⟨v2, w2, r2, v3, w3, v4, w4, r3, r4, hd, e3, e4, f4, ⟨a3, m3, c3', rfl⟩, ra, rb⟩ := unhide HA q
      have d0 : w2.cell? ⟨B, 0, none⟩ = some (.int .i64 c0) := hd 0 _ rfl
      have d1 : w2.cell? ⟨B, 1, none⟩ = some (.int .i64 c1) := hd 1 _ rfl
      have d2 : w2.cell? ⟨B, 2, none⟩ = some (.string c2) := hd 2 _ rfl
      have d3 : w2.cell? ⟨B, 3, none⟩ = some (.slice c3 c4 c5) := hd 3 _ rfl
      have d4 : w2.cell? ⟨B, 4, none⟩ = some (.slice c6 c7 c8) := hd 4 _ rfl
      have HR := hide (And.intro ra rb)
      clear ra rb HA CPH HCB hd
      go_wp2_with (first | (have _t := tokA; at_builtin; refine Go.Lib.wpList_append_run _ rfl (.tmp 15) (.tmp 21) 38 38 rfl _ _ rfl rfl v2 w2 r2 ?_; clear tokA r2 c1') | (have _t := tokB; at_builtin; refine Go.Lib.wpList_append_run _ rfl (.tmp 23) (.tmp 27) 38 38 rfl _ _ rfl rfl v3 w3 r3 ?_; clear tokB r3 d0 d1 d2 d3 d4) | (have _t := tokC; at_builtin; refine Go.Lib.wpList_append_run _ rfl (.tmp 33) (.tmp 39) 38 38 rfl _ _ rfl rfl (.slice a3 m3 c3') w4 r4 ?_; clear tokC r4 e3))
      go_end0
      exact ⟨⟨_, rfl⟩, _, unhide HR⟩
  | false =>
    obtain rfl := hII.2 rfl
    rcases hshape with rfl | ⟨b, rfl⟩
    · obtain ⟨e1, e2⟩ := hn0 rfl
      clear hII hn0
      obtain rfl : n = I := by omega
      obtain rfl : cap = n := by omega
      rw [if_pos rfl] at hx2
      have hx3 := hx2
      rw [Nat.sub_self] at HA
      clear e1 e2
      rw [hx3] at HA
      clear hx2 hx3
      go_enter Tryz.func73, Tryz.ntmps73
      go_wp2_with fail
      refine (unhide CPH).mono ?_
      rintro e u1 ⟨rfl, q, rfl⟩
      have c1' := unhide HCB q
      obtain ⟨v2, w2, r2, v3, w3, v4, w4, r3, r4, hd, e3, e4, f4, ⟨a3, m3, c3', rfl⟩, ra, rb⟩ := unhide HA q
      have d0 : w2.cell? ⟨B, 0, none⟩ = some (.int .i64 c0) := hd 0 _ rfl
      have d1 : w2.cell? ⟨B, 1, none⟩ = some (.int .i64 c1) := hd 1 _ rfl
      have d2 : w2.cell? ⟨B, 2, none⟩ = some (.string c2) := hd 2 _ rfl
      have d3 : w2.cell? ⟨B, 3, none⟩ = some (.slice c3 c4 c5) := hd 3 _ rfl
      have d4 : w2.cell? ⟨B, 4, none⟩ = some (.slice c6 c7 c8) := hd 4 _ rfl
      have HR := hide (And.intro ra rb)
      clear ra rb HA CPH HCB hd
      go_wp2_with (first | (have _t := tokA; at_builtin; refine Go.Lib.wpList_append_run _ rfl (.tmp 15) (.tmp 21) 38 38 rfl _ _ rfl rfl v2 w2 r2 ?_; clear tokA r2 c1') | (have _t := tokB; at_builtin; refine Go.Lib.wpList_append_run _ rfl (.tmp 23) (.tmp 27) 38 38 rfl _ _ rfl rfl v3 w3 r3 ?_; clear tokB r3 d0 d1 d2 d3 d4) | (have _t := tokC; at_builtin; refine Go.Lib.wpList_append_run _ rfl (.tmp 33) (.tmp 39) 38 38 rfl _ _ rfl rfl (.slice a3 m3 c3') w4 r4 ?_; clear tokC r4 e3))
      go_end0
      exact ⟨⟨_, rfl⟩, _, unhide HR⟩
    clear hII hn0
    by_cases hci : cap = I
    · rw [if_pos hci] at hx2
      have hx3 := hx2
      obtain rfl : n = I := by omega
      subst hci
      rw [Nat.sub_self] at HA
      rw [hx3] at HA
      clear hx2 hx3
      go_enter Tryz.func73, Tryz.ntmps73
      go_wp2_with fail
      refine (unhide CPH).mono ?_
      rintro e u1 ⟨rfl, q, rfl⟩
      have c1' := unhide HCB q
      obtain ⟨v2, w2, r2, v3, w3, v4, w4, r3, r4, hd, e3, e4, f4, ⟨a3, m3, c3', rfl⟩, ra, rb⟩ := unhide HA q
      have d0 : w2.cell? ⟨B, 0, none⟩ = some (.int .i64 c0) := hd 0 _ rfl
      have d1 : w2.cell? ⟨B, 1, none⟩ = some (.int .i64 c1) := hd 1 _ rfl
      have d2 : w2.cell? ⟨B, 2, none⟩ = some (.string c2) := hd 2 _ rfl
      have d3 : w2.cell? ⟨B, 3, none⟩ = some (.slice c3 c4 c5) := hd 3 _ rfl
      have d4 : w2.cell? ⟨B, 4, none⟩ = some (.slice c6 c7 c8) := hd 4 _ rfl
      have HR := hide (And.intro ra rb)
      clear ra rb HA CPH HCB hd
      go_wp2_with (first | (have _t := tokA; at_builtin; refine Go.Lib.wpList_append_run _ rfl (.tmp 15) (.tmp 21) 38 38 rfl _ _ rfl rfl v2 w2 r2 ?_; clear tokA r2 c1') | (have _t := tokB; at_builtin; refine Go.Lib.wpList_append_run _ rfl (.tmp 23) (.tmp 27) 38 38 rfl _ _ rfl rfl v3 w3 r3 ?_; clear tokB r3 d0 d1 d2 d3 d4) | (have _t := tokC; at_builtin; refine Go.Lib.wpList_append_run _ rfl (.tmp 33) (.tmp 39) 38 38 rfl _ _ rfl rfl (.slice a3 m3 c3') w4 r4 ?_; clear tokC r4 e3))
      go_end0
      exact ⟨⟨_, rfl⟩, _, unhide HR⟩
    · rw [if_neg hci] at hx2
      have hx3 : x2 = some ⟨b, I * 6, none⟩ := by
        rw [hx2]
        show some ((⟨b, 0, none⟩ : Addr).add (I * 6)) = _
        rw [add_offR, Nat.zero_add]
      rw [hx3] at HA
      clear hx2 hx3
      go_enter Tryz.func73, Tryz.ntmps73
      go_wp2_with fail
      refine (unhide CPH).mono ?_
      rintro e u1 ⟨rfl, q, rfl⟩
      have c1' := unhide HCB q
      obtain ⟨v2, w2, r2, v3, w3, v4, w4, r3, r4, hd, e3, e4, f4, ⟨a3, m3, c3', rfl⟩, ra, rb⟩ := unhide HA q
      have d0 : w2.cell? ⟨B, 0, none⟩ = some (.int .i64 c0) := hd 0 _ rfl
      have d1 : w2.cell? ⟨B, 1, none⟩ = some (.int .i64 c1) := hd 1 _ rfl
      have d2 : w2.cell? ⟨B, 2, none⟩ = some (.string c2) := hd 2 _ rfl
      have d3 : w2.cell? ⟨B, 3, none⟩ = some (.slice c3 c4 c5) := hd 3 _ rfl
      have d4 : w2.cell? ⟨B, 4, none⟩ = some (.slice c6 c7 c8) := hd 4 _ rfl
      have HR := hide (And.intro ra rb)
      clear ra rb HA CPH HCB hd
      go_wp2_with (first | (have _t := tokA; at_builtin; refine Go.Lib.wpList_append_run _ rfl (.tmp 15) (.tmp 21) 38 38 rfl _ _ rfl rfl v2 w2 r2 ?_; clear tokA r2 c1') | (have _t := tokB; at_builtin; refine Go.Lib.wpList_append_run _ rfl (.tmp 23) (.tmp 27) 38 38 rfl _ _ rfl rfl v3 w3 r3 ?_; clear tokB r3 d0 d1 d2 d3 d4) | (have _t := tokC; at_builtin; refine Go.Lib.wpList_append_run _ rfl (.tmp 33) (.tmp 39) 38 38 rfl _ _ rfl rfl (.slice a3 m3 c3') w4 r4 ?_; clear tokC r4 e3))
      go_end0
      exact ⟨⟨_, rfl⟩, _, unhide HR⟩
end
end Go.Proofs.YtdaooapfokhfcaaGreat

namespace Go.Proofs.YtdaooapfokhfcaaGreat
open Go.RowKit
set_option linter.unusedVariables false
set_option linter.unusedSimpArgs false

/-- what is told behind a change -/
def rnU (t : Rx) (k : ByteArray) : Us := if t.ms = [] then t.U else t.U ++ [(k, lookK t.X k)]

section
variable {w w' : World} {V V' V1 : Nat → Prop} {t t' : Rx}

theorem rnote_any (h : Rto w V t) (hr : Rk t.lx) (hu : t.us.length ≤ 1353245080318) (k : ByteArray) : Calls Tryz.prog 70 #[.pointer (some ⟨t.r, 0, none⟩), .string k] w fun e w' => (∃ r, e = .returned r) ∧ ∃ t1, Rto w' V t1 ∧ RAdv w w' V V t t1 ∧ (t1.r = t.r ∧ t1.lv = t.lv ∧ t1.lx = t.lx ∧ t1.mv = t.mv ∧ t1.ms = t.ms) ∧ t1.U = rnU t k ∧ t1.us.length ≤ t.us.length + 1 := by
  by_cases hm : t.ms = []
  · refine (note_none h hm k).mono ?_
    rintro e w' ⟨he, hb⟩
    exact ⟨he, t, h.later hb, RAdv.of' hb t V, ⟨rfl, rfl, rfl, rfl, rfl⟩, by unfold rnU; rw [if_pos hm], by omega⟩
  · cases hO : lookK t.lx k with
    | none =>
      refine (note_new h hr hm hu k hO).mono ?_
      rintro e w' ⟨he, uv', h1, h2⟩
      refine ⟨he, _, h1, h2, ⟨rfl, rfl, rfl, rfl, rfl⟩, ?_, by simp⟩
      unfold rnU
      rw [if_neg hm]
      have : lookK t.X k = none := by unfold Rx.X; rw [mapK_look, hO]; rfl
      rw [this]
      simp [Rx.U, mapK]
    | some x =>
      refine (note_there h hr hm hu k x hO).mono ?_
      rintro e w' ⟨he, uv', h1, h2⟩
      refine ⟨he, _, h1, h2, ⟨rfl, rfl, rfl, rfl, rfl⟩, ?_, by simp⟩
      unfold rnU
      rw [if_neg hm]
      have : lookK t.X k = some x.2 := by unfold Rx.X; rw [mapK_look, hO]; rfl
      rw [this]
      simp [Rx.U, mapK]

def thAt (lx : List (ByteArray × (ThV × Vl))) (i : Nat) : List Value := match lx[i]? with | some p => thV p.2.1 | none => []
/-- a row of entries, as it lies -/
theorem row_isE {lo : Nat} {v : Value} {lx : List (ByteArray × (ThV × Vl))} (hrow : w.ownsRow lo 77 6 v lx.length (cellsV (mapK Prod.fst lx))) (hok : ∀ p ∈ lx, IsP w V p.2.2 (.agg (thV p.2.1).toArray)) (hV : ∀ j, V j → j < w.heap.size) (hl : lx.length ≤ 100000) (hk : ∀ p ∈ lx, p.1.size ≤ 140737488351232) : ∃ al cl, v = .slice al lx.length cl ∧ IsE w (fun b => b < w.heap.size) (mapK Prod.snd lx) al cl := by
  have hlen : (mapK Prod.snd lx).length = lx.length := mapK_len _ _
  have hget : ∀ (i : Nat) (e : En), (mapK Prod.snd lx)[i]? = some e → ∃ p, lx[i]? = some p ∧ e = (p.1, p.2.2) := fun i e he => by
    unfold mapK at he
    rw [List.getElem?_map] at he
    obtain ⟨p, hp, rfl⟩ := Option.map_eq_some_iff.1 he
    exact ⟨p, hp, rfl⟩
  have hz : ∀ q ∈ mapK Prod.snd lx, q.1.size ≤ 140737488351232 := fun q hq => by
    obtain ⟨p, hp, rfl⟩ := List.mem_map.1 hq
    exact hk p hp
  have hv : ∀ (i : Nat) (q : En), (mapK Prod.snd lx)[i]? = some q → (thAt lx i).length = 5 ∧ IsP w (fun b => b < w.heap.size) q.2 (.agg (thAt lx i).toArray) := fun i q hq => by
    obtain ⟨p, hp, rfl⟩ := hget i q hq
    have ht : thAt lx i = thV p.2.1 := by unfold thAt; rw [hp]
    rw [ht]
    exact ⟨rfl, (hok p (List.mem_of_getElem? hp)).isV (fun j hj => hV j hj)⟩
  rcases hrow.2 with ⟨e, e2⟩ | ⟨b, cap, cur, e, hb, hg, hc, hm, hs, ht⟩
  · refine ⟨none, 0, by rw [e, e2], thAt lx, fun _ => ⟨by rw [hlen]; exact e2, rfl⟩, by rw [hlen]; omega, by rw [hlen]; omega, (fun a ha => by cases ha), hz, hv⟩
  · refine ⟨_, cap, e, thAt lx, (fun e => by cases e), by rw [hlen]; exact hc, by rw [hlen]; omega, ?_, hz, hv⟩
    intro a ha i q hq
    cases ha
    obtain ⟨p, hp, rfl⟩ := hget i q hq
    refine ⟨(Array.getElem?_eq_some_iff.1 hg).1, fun j u hu => ?_⟩
    have ht : thAt lx i = thV p.2.1 := by unfold thAt; rw [hp]
    rw [ht] at hu
    have h1 : (mapK Prod.fst lx)[i]? = some (p.1, p.2.1) := by unfold mapK; rw [List.getElem?_map, hp]; rfl
    have h2 := cellsV_at (mapK Prod.fst lx) i _ h1 j u hu
    have h3 := hrow.cells (show v.ownBlock = some b by rw [e]; rfl) _ _ h2
    rw [add_offR, Nat.zero_add] at h3
    rw [add_offR, add_offR]
    simpa using h3

/-- a row made earlier becomes its own -/
theorem Rto.setL {lo : Nat} {lv' : Value} {lx' : List (ByteArray × (ThV × Vl))} (h : Rto w V t) (hrow : w.ownsRow lo 77 6 lv' lx'.length (cellsV (mapK Prod.fst lx'))) (hlv : ∀ b, lv'.ownBlock = some b → ¬ V1 b) (hok : ∀ p ∈ lx', IsP w V1 p.2.2 (.agg (thV p.2.1).toArray)) (hV : ∀ j, V j → V1 j) (hV1 : ∀ j, V1 j → j < w.heap.size ∧ ¬ t.own j) :
    Rto (w.setCell ⟨t.r, 0, none⟩ lv') V1 { t with lv := lv', lx := lx' } := by
  have hne : ∀ j, j ≠ t.r → (w.setCell ⟨t.r, 0, none⟩ lv').heap[j]? = w.heap[j]? := fun j hj => heap_setCell_other _ _ _ _ hj
  have hT : ∀ j T, tyOf w j T → T ≠ 56 → (w.setCell ⟨t.r, 0, none⟩ lv').heap[j]? = w.heap[j]? := fun j T hj hT => hne j (ty_ne hj ⟨_, h.box⟩ hT)
  have hbox := heap_setCell_same w t.r 0 _ _ lv' h.box
  have hVne : ∀ j, V1 j → j ≠ t.r := fun j hj e => (hV1 j hj).2 (.inl e)
  refine ⟨hbox, own_low (row_to hrow (fun b hb' => hT b _ (row_ty hrow hb') (by decide))) (Nat.zero_le _), fun p hp => (hok p hp).move (fun b hb' => hne b (hVne b hb')), row_to h.und (fun b hb' => hT b _ (row_ty h.und hb') (by decide)), fun p hp y hy => ((h.uok p hp y hy).weak hV).move (fun b hb' => hne b (hVne b hb')), row_to h.mrk (fun b hb' => hT b _ (row_ty h.mrk hb') (by decide)), fun j hj => ⟨by rw [sz_setCell]; exact (hV1 j hj).1, fun e => ?_⟩⟩
  rcases e with e | e | e | e
  · exact (hV1 j hj).2 (.inl e)
  · exact hlv j e hj
  · exact (hV1 j hj).2 (.inr (.inr (.inl e)))
  · exact (hV1 j hj).2 (.inr (.inr (.inr e)))

def RPut (w w' : World) (V : Nat → Prop) (t : Rx) (k : ByteArray) (v : Vl) : Prop := ∃ V' t', Rto w' V' t' ∧ RAdv w w' V V' t t' ∧ t'.ms = t.ms ∧ t'.us.length ≤ t.us.length + 1 ∧ t'.X = putX t.X k v ∧ t'.U = if putE t.X k v = 0 then rnU t k else t.U

theorem RPut.stay (h : Rto w V t) (hb : Below w.heap.size w w') {k : ByteArray} {v : Vl} (h1 : putX t.X k v = t.X) (h2 : putE t.X k v ≠ 0) : RPut w w' V t k v :=
  ⟨V, t, h.later hb, RAdv.of' hb t V, rfl, by omega, h1.symm, by rw [if_neg h2]⟩

set_option maxRecDepth 100000 in
theorem rput_bad (k : ByteArray) (c : ThV) (p : Value) (hk : keyB k = false) :
    Calls Tryz.prog 29 #[p, .string k, .agg (thV c).toArray] w fun e w' => e = .returned (.int .i64 60) ∧ Below w.heap.size w w' := by
  obtain ⟨c0, c1, c2, c3, c4, c5, c6, c7, c8⟩ := c
  dsimp only [thV]
  obtain ⟨w1, hw1⟩ : ∃ w1, w.alloc (.cells #[.int .i64 c0, .int .i64 c1, .string c2, .slice c3 c4 c5, .slice c6 c7 c8] 32) = w1 := ⟨_, rfl⟩
  have B1 : Below w.heap.size w w1 := by rw [← hw1]; exact (Below.refl _ _).alloc (Nat.le_refl _) _
  have CK := rkey_any k w1
  rw [hk] at CK
  have CKH := hide CK
  have H1 := hide B1
  clear B1 hk CK
  go_enter Tryz.func29, Tryz.ntmps29
  go_wp2_with fail
  refine (unhide CKH).mono ?_
  rintro e u1 ⟨rfl, hu1⟩
  obtain rfl := hu1.symm
  clear hu1
  go_wp2_with fail
  go_ret
  exact ⟨rfl, unhide H1⟩

set_option maxRecDepth 100000 in
theorem rput_wrong (k : ByteArray) (v : Vl) (c : ThV) (p : Value) (hv : IsV w w.heap.size v (.agg (thV c).toArray)) (hk : keyB k = true) (hr : rightB v = false) :
    Calls Tryz.prog 29 #[p, .string k, .agg (thV c).toArray] w fun e w' => e = .returned (.int .i64 61) ∧ Below w.heap.size w w' := by
  obtain ⟨c0, c1, c2, c3, c4, c5, c6, c7, c8⟩ := c
  dsimp only [thV] at hv ⊢
  obtain ⟨w1, hw1⟩ : ∃ w1, w.alloc (.cells #[.int .i64 c0, .int .i64 c1, .string c2, .slice c3 c4 c5, .slice c6 c7 c8] 32) = w1 := ⟨_, rfl⟩
  obtain ⟨G, hG⟩ : ∃ G, w.heap.size = G := ⟨_, rfl⟩
  have B1 : Below w.heap.size w w1 := by rw [← hw1]; exact (Below.refl _ _).alloc (Nat.le_refl _) _
  have N1 : w1.heap[G]? = some (.cells #[.int .i64 c0, .int .i64 c1, .string c2, .slice c3 c4 c5, .slice c6 c7 c8] 32 (0, 0)) := by rw [← hw1, ← hG]; exact heap_alloc_new w _
  have CK := rkey_any k w1
  rw [hk] at CK
  have CKH := hide CK
  have CC := right_ref v _ w.heap.size w1 (hv.mono B1) B1.size
  rw [hr] at CC
  have CCH := hide CC
  obtain ⟨d0, d1, d2, d3, d4⟩ := row_cell N1
  have H1 := hide B1
  clear B1 hk CK CC hv N1
  go_enter Tryz.func29, Tryz.ntmps29
  go_wp2_with fail
  refine (unhide CKH).mono ?_
  rintro e u1 ⟨rfl, hu1⟩
  obtain rfl := hu1.symm
  clear hu1
  go_wp2_with fail
  refine (unhide CCH).mono ?_
  rintro e u2 ⟨rfl, b2⟩
  have H2 := hide ((unhide H1).trans (b2.mono (unhide H1).size))
  clear b2 H1
  go_wp2_with fail
  go_ret
  exact ⟨rfl, unhide H2⟩

end
end Go.Proofs.YtdaooapfokhfcaaGreat
