/-
  store's Put, Delete; conditions: the form's own reach.
-/
import Derived.Test.YtdaooapfokhfcaaGreatA28
namespace Go.Proofs.YtdaooapfokhfcaaGreat
open Go.RowKit
set_option linter.unusedVariables false
set_option linter.unusedSimpArgs false

/-- is there room -/
def fitX (X : Xs) (k : ByteArray) (v : Vl) : Bool := decide ((putK X k v).length ≤ 128) && decide (tot (putK X k v) ≤ 32768)
/-- what Put answers -/
def putE (X : Xs) (k : ByteArray) (v : Vl) : Int := if keyB k = true then (if rightB v = true then (if fitX X k v = true then 0 else 62) else 61) else 60
/-- what is there then -/
def putX (X : Xs) (k : ByteArray) (v : Vl) : Xs := if keyB k = true ∧ rightB v = true ∧ fitX X k v = true then putK X k v else X

section
variable {w w' : World} {V V' : Nat → Prop} {t t' : Sx} {X B : Xs} {Bs : List Xs}

theorem fit_eq (h : Stt w V t X Bs) (k : ByteArray) (v : Vl) : fitB t k v = fitX X k v := by
  unfold fitB fitX
  have h1 := tot_put X k v h.rk
  have h2 := put_len X k v
  have h3 := oldW_T h.sto k
  rw [h.ent] at h3
  have h4 : t.l.length = X.length := by rw [← h.ent]; exact (mapK_len _ _).symm
  have h5 : (lookK t.l k).isSome = (lookK X k).isSome := by rw [h.look]; simp
  have h6 : (X.map Prod.fst)[lowK X k]? = some k ↔ (lookK X k).isSome = true := by
    have := look_none_at X k h.rk
    constructor
    · intro e
      cases hl : lookK X k with
      | none => exact absurd e (this.1 hl)
      | some y => rfl
    · intro e
      by_cases hc : (X.map Prod.fst)[lowK X k]? = some k
      · exact hc
      · rw [this.2 hc] at e
        cases e
  rw [h3, h4, h5, h.fine]
  have e1 : decide ((X.length : Int) + 1 - (if (lookK X k).isSome = true then 1 else 0) ≤ 128) = decide ((putK X k v).length ≤ 128) := by
    apply decide_eq_decide.2
    rw [h2]
    by_cases hc : (lookK X k).isSome = true
    · rw [if_pos hc, if_pos (h6.2 hc)]
      omega
    · rw [if_neg hc, if_neg (fun e => hc (h6.1 e))]
      omega
  have e2 : decide ((tot X : Int) + (ew (k, v) : Int) - (oldT X k : Int) ≤ 32768) = decide (tot (putK X k v) ≤ 32768) := by
    apply decide_eq_decide.2
    omega
  rw [e1, e2]

set_option maxRecDepth 100000 in
theorem put_bad (h : Stt w V t X Bs) (k : ByteArray) (v : Vl) (c : ThV) (hv : IsV w w.heap.size v (.agg (thV c).toArray)) (hk : keyB k = false) :
    Calls Tryz.prog 9 #[.pointer (some ⟨t.s, 0, none⟩), .string k, .agg (thV c).toArray] w fun e w' => e = .returned (.int .i64 60) ∧ Below w.heap.size w w' := by
  obtain ⟨t0, t1, t2, t3, t4, t5, t6, t7, t8⟩ := c
  dsimp only [thV] at hv ⊢
  obtain ⟨w1, hw1⟩ : ∃ w1, w.alloc (.cells #[.int .i64 t0, .int .i64 t1, .string t2, .slice t3 t4 t5, .slice t6 t7 t8] 32) = w1 := ⟨_, rfl⟩
  have B1 : Below w.heap.size w w1 := by rw [← hw1]; exact (Below.refl _ _).alloc (Nat.le_refl _) _
  have CR := hide (rows_any (h.sto.later B1))
  have CK := keyed_any k w1
  rw [hk] at CK
  have CK := hide CK
  have H1 := hide B1
  clear h B1 hv hk
  obtain ⟨s, g, v0, l0, W, mv, ms⟩ := t
  dsimp only at CR ⊢
  go_enter Tryz.func9, Tryz.ntmps9
  go_wp2_with fail
  refine (unhide CR).mono ?_
  rintro e u1 ⟨rfl, hu1⟩
  obtain rfl := hu1.symm
  clear hu1
  go_wp2_with fail
  refine (unhide CK).mono ?_
  rintro e u1 ⟨rfl, hu1⟩
  obtain rfl := hu1.symm
  clear hu1
  go_wp2_with fail
  go_ret
  exact ⟨rfl, unhide H1⟩

set_option maxRecDepth 100000 in
theorem put_wrong (h : Stt w V t X Bs) (k : ByteArray) (v : Vl) (c : ThV) (hv : IsV w w.heap.size v (.agg (thV c).toArray)) (hk : keyB k = true) (hr : rightB v = false) :
    Calls Tryz.prog 9 #[.pointer (some ⟨t.s, 0, none⟩), .string k, .agg (thV c).toArray] w fun e w' => e = .returned (.int .i64 61) ∧ Below w.heap.size w w' := by
  obtain ⟨t0, t1, t2, t3, t4, t5, t6, t7, t8⟩ := c
  dsimp only [thV] at hv ⊢
  obtain ⟨w1, hw1⟩ : ∃ w1, w.alloc (.cells #[.int .i64 t0, .int .i64 t1, .string t2, .slice t3 t4 t5, .slice t6 t7 t8] 32) = w1 := ⟨_, rfl⟩
  obtain ⟨G, hG⟩ : ∃ G, w.heap.size = G := ⟨_, rfl⟩
  have B1 : Below w.heap.size w w1 := by rw [← hw1]; exact (Below.refl _ _).alloc (Nat.le_refl _) _
  have N1 : w1.heap[G]? = some (.cells #[.int .i64 t0, .int .i64 t1, .string t2, .slice t3 t4 t5, .slice t6 t7 t8] 32 (0, 0)) := by rw [← hw1, ← hG]; exact heap_alloc_new w _
  have CR := hide (rows_any (h.sto.later B1))
  have CK := keyed_any k w1
  rw [hk] at CK
  have CK := hide CK
  have CC := right_code v _ w.heap.size w1 (hv.mono B1) B1.size
  rw [hr] at CC
  have CC := hide CC
  obtain ⟨c0, c1, c2, c3, c4⟩ := row_cell N1
  have H1 := hide B1
  clear h B1 hv hk hr N1
  obtain ⟨s, g, v0, l0, W, mv, ms⟩ := t
  dsimp only at CR ⊢
  go_enter Tryz.func9, Tryz.ntmps9
  go_wp2_with fail
  refine (unhide CR).mono ?_
  rintro e u1 ⟨rfl, hu1⟩
  obtain rfl := hu1.symm
  clear hu1
  go_wp2_with fail
  refine (unhide CK).mono ?_
  rintro e u1 ⟨rfl, hu1⟩
  obtain rfl := hu1.symm
  clear hu1
  go_wp2_with fail
  refine (unhide CC).mono ?_
  rintro e u2 ⟨rfl, b2⟩
  have H2 := hide ((unhide H1).trans (b2.mono (unhide H1).size))
  clear b2
  go_wp2_with fail
  go_ret
  exact ⟨rfl, by first | exact unhide H2 | (rw [← hG]; exact unhide H2)⟩

set_option maxRecDepth 100000 in
set_option maxHeartbeats 800000 in
theorem put_full (h : Stt w V t X Bs) (k : ByteArray) (v : Vl) (c : ThV) (hv : IsV w w.heap.size v (.agg (thV c).toArray)) (hk : keyB k = true) (hr : rightB v = true) (hf : fitB t k v = false) :
    Calls Tryz.prog 9 #[.pointer (some ⟨t.s, 0, none⟩), .string k, .agg (thV c).toArray] w fun e w' => e = .returned (.int .i64 62) ∧ Below w.heap.size w w' := by
  have HF : Hid (∀ u, Below w.heap.size w u → Calls Tryz.prog 44 #[.pointer (some ⟨t.s, 0, none⟩), .string k, .agg (thV c).toArray] u fun e w' => e = .returned (.bool false) ∧ Below u.heap.size u w') := hide (fun u hu => by
    have := fits_any (h.sto.later hu) (by have := h.lenL; omega) h.rng k ((keyB_iff k).1 hk).2 v c w.heap.size (hv.mono hu) hu.size
    rw [hf] at this
    exact this)
  obtain ⟨t0, t1, t2, t3, t4, t5, t6, t7, t8⟩ := c
  dsimp only [thV] at hv HF ⊢
  obtain ⟨w1, hw1⟩ : ∃ w1, w.alloc (.cells #[.int .i64 t0, .int .i64 t1, .string t2, .slice t3 t4 t5, .slice t6 t7 t8] 32) = w1 := ⟨_, rfl⟩
  obtain ⟨G, hG⟩ : ∃ G, w.heap.size = G := ⟨_, rfl⟩
  have B1 : Below w.heap.size w w1 := by rw [← hw1]; exact (Below.refl _ _).alloc (Nat.le_refl _) _
  have N1 : w1.heap[G]? = some (.cells #[.int .i64 t0, .int .i64 t1, .string t2, .slice t3 t4 t5, .slice t6 t7 t8] 32 (0, 0)) := by rw [← hw1, ← hG]; exact heap_alloc_new w _
  have CR := hide (rows_any (h.sto.later B1))
  have CK := keyed_any k w1
  rw [hk] at CK
  have CK := hide CK
  have CC := right_code v _ w.heap.size w1 (hv.mono B1) B1.size
  rw [hr] at CC
  have CC := hide CC
  obtain ⟨c0, c1, c2, c3, c4⟩ := row_cell N1
  have H1 := hide (And.intro B1 N1)
  clear h B1 hv hk hr N1 hf
  obtain ⟨s, g, v0, l0, W, mv, ms⟩ := t
  dsimp only at CR HF ⊢
  go_enter Tryz.func9, Tryz.ntmps9
  go_wp2_with fail
  refine (unhide CR).mono ?_
  rintro e u1 ⟨rfl, hu1⟩
  obtain rfl := hu1.symm
  clear hu1
  go_wp2_with fail
  refine (unhide CK).mono ?_
  rintro e u1 ⟨rfl, hu1⟩
  obtain rfl := hu1.symm
  clear hu1
  go_wp2_with fail
  refine (unhide CC).mono ?_
  rintro e u2 ⟨rfl, b2⟩
  have H2 := hide ((unhide H1).1.trans (b2.mono (unhide H1).1.size))
  have N2 := (b2.block G (Array.getElem?_eq_some_iff.1 (unhide H1).2).1).trans (unhide H1).2
  clear b2 c0 c1 c2 c3 c4
  obtain ⟨c0, c1, c2, c3, c4⟩ := row_cell N2
  clear N2
  have CF := hide (unhide HF u2 (unhide H2))
  go_wp2_with fail
  refine (unhide CF).mono ?_
  rintro e u3 ⟨rfl, b3⟩
  have H3 := hide ((unhide H2).trans (b3.mono (unhide H2).size))
  clear b3
  go_wp2_with fail
  go_ret
  exact ⟨rfl, by first | exact unhide H3 | (rw [← hG]; exact unhide H3)⟩

/-- what a change has done: the parts put together -/
theorem st_put (h : Stt w V t X Bs) {k : ByteArray} {v : Vl} {c : ThV} {v' : Value} {ms' : List Mk} (hs : Sto w' V' { t with ms := ms', v := v', l := putK t.l k (c, v), wg := t.wg - oldW t k + (ew (k, v) : Int) }) (hm : absM ms' = updLast (keepL k (lookK X k)) (absM t.ms)) (hf : fitX X k v = true) :
    Stt w' V' { t with ms := ms', v := v', l := putK t.l k (c, v), wg := t.wg - oldW t k + (ew (k, v) : Int) } (putK X k v) Bs := by
  unfold fitX at hf
  rw [Bool.and_eq_true, decide_eq_true_eq, decide_eq_true_eq] at hf
  refine ⟨hs, ?_, ?_, hf.1, hf.2, ?_⟩
  · show mapK Prod.snd (putK t.l k (c, v)) = _
    rw [mapK_put, ← h.ent]
    rfl
  · show t.wg - oldW t k + (ew (k, v) : Int) = _
    have h1 := tot_put X k v h.rk
    have h2 := oldW_T h.sto k
    rw [h.ent] at h2
    have h3 := h.fine
    omega
  · show Chain _ (absM ms').reverse Bs
    rw [hm, rev_updLast]
    exact chain_put h.ch h.rk k v

set_option maxRecDepth 100000 in
set_option maxHeartbeats 1000000 in
theorem put_fine {P : Nat → Prop} (h : Stt w V t X Bs) (k : ByteArray) (v : Vl) (c : ThV) (hv : IsP w P v (.agg (thV c).toArray)) (hP : ∀ j, P j → j < w.heap.size ∧ ¬ t.own j) (hk : keyB k = true) (hr : rightB v = true) (hf : fitX X k v = true) :
    Calls Tryz.prog 9 #[.pointer (some ⟨t.s, 0, none⟩), .string k, .agg (thV c).toArray] w fun e w' => e = .returned (.int .i64 0) ∧ ∃ V' t', Stt w' V' t' (putK X k v) Bs ∧ Adv w w' V V' t t' := by
  have hkk := (keyB_iff k).1 hk
  have HF : Hid (∀ u, Below w.heap.size w u → Calls Tryz.prog 44 #[.pointer (some ⟨t.s, 0, none⟩), .string k, .agg (thV c).toArray] u fun e w' => e = .returned (.bool true) ∧ Below u.heap.size u w') := hide (fun u hu => by
    have := fits_any (h.sto.later hu) (by have := h.lenL; omega) h.rng k hkk.2 v c w.heap.size ((hv.isV (fun b hb => (hP b hb).1)).mono hu) hu.size
    rw [fit_eq h, hf] at this
    exact this)
  have HK : Hid (∀ u, Below w.heap.size w u → Calls Tryz.prog 45 #[.string k] u fun e w' => e = .returned (.string k) ∧ Below u.heap.size u w') := hide (fun u hu => str_clone k u (by have := hkk.2; omega))
  have HU : Hid (∀ u, Below w.heap.size w u → Calls Tryz.prog 47 #[.pointer (some ⟨t.s, 0, none⟩), .string k] u fun e w' => ∃ c : ThU, e = .returned (.agg (thU c).toArray) ∧ Below u.heap.size u w' ∧ UOk w' (VUp w w' V) t.s k (c, lookK X k)) := hide (fun u hu => by
    refine (undoing_any (h.sto.later hu) k hkk).mono ?_
    rintro e w' ⟨c, rfl, b, ok⟩
    rw [h.look]
    refine ⟨c, rfl, b, ok.to (fun _ _ => rfl) (fun j hj => ?_)⟩
    rcases hj with hj | ⟨h1, h2⟩
    · exact .inl hj
    · exact .inr ⟨by have := hu.size; omega, h2⟩)
  have HY : Hid (∀ (u : World) (V1 : Nat → Prop) (ms' : List Mk), Sto u V1 { t with ms := ms' } → Adv w u V V1 t { t with ms := ms' } → Calls Tryz.prog 49 #[.agg (thV c).toArray] u fun e w' => ∃ c' : ThV, e = .returned (.agg (thV c').toArray) ∧ Below u.heap.size u w' ∧ IsP w' (VUp u w' V1) v (.agg (thV c').toArray)) := hide (fun u V1 ms' hs ha => by
    obtain ⟨k1, k2⟩ := ha.kept hP
    refine (copy_any v _ u.heap.size u ((hv.move k1).isV (fun b hb => (k2 b hb).1)) (Nat.le_refl _)).mono ?_
    rintro e w' ⟨x', rfl, b, q, -⟩
    have hq := q hr
    obtain ⟨c', rfl⟩ := isP_th hq.1
    exact ⟨c', rfl, b, hq.1.weak (fun j hj => .inr hj)⟩)
  have HL : Hid (∀ (u0 u : World) (V1 : Nat → Prop) (ms' : List Mk) (c' : ThV), Sto u0 V1 { t with ms := ms' } → Adv w u0 V V1 t { t with ms := ms' } → absM ms' = updLast (keepL k (lookK X k)) (absM t.ms) → Below u0.heap.size u0 u → IsP u (VUp u0 u V1) v (.agg (thV c').toArray) → Calls Tryz.prog 48 #[.pointer (some ⟨t.s, 0, none⟩), .string k, .agg (thV c').toArray] u fun e w' => (∃ r, e = .returned r) ∧ ∃ V' t', Stt w' V' t' (putK X k v) Bs ∧ Adv w w' V V' t t') := hide (fun u0 u V1 ms' c' hs ha e1 hb hp => by
    refine (lay_any (hs.up hb) (by have := h.lenL; show t.l.length ≤ _; omega) h.rng k hkk v c' hp hr).mono ?_
    rintro e w' ⟨hr, v', a, b⟩
    refine ⟨hr, _, _, st_put h a e1 hf, (ha.trans (Adv.of hb _ V1)).trans b⟩)
  have hvv := hv.isV (fun b hb => (hP b hb).1)
  have HG : Hid (∀ j, t.own j → j < w.heap.size) := hide (fun j hj => h.sto.lt hj)
  obtain ⟨t0, t1, t2, t3, t4, t5, t6, t7, t8⟩ := c
  dsimp only [thV] at hvv HF HY ⊢
  obtain ⟨w1, hw1⟩ : ∃ w1, w.alloc (.cells #[.int .i64 t0, .int .i64 t1, .string t2, .slice t3 t4 t5, .slice t6 t7 t8] 32) = w1 := ⟨_, rfl⟩
  obtain ⟨G, hG⟩ : ∃ G, w.heap.size = G := ⟨_, rfl⟩
  have B1 : Below w.heap.size w w1 := by rw [← hw1]; exact (Below.refl _ _).alloc (Nat.le_refl _) _
  have N1 : w1.heap[G]? = some (.cells #[.int .i64 t0, .int .i64 t1, .string t2, .slice t3 t4 t5, .slice t6 t7 t8] 32 (0, 0)) := by rw [← hw1, ← hG]; exact heap_alloc_new w _
  have hz1 : w1.heap.size = G + 1 := by rw [← hw1, ← hG]; simp
  -- where the box is known to stand
  have CR := hide (rows_any (h.sto.later B1))
  have CK := keyed_any k w1
  rw [hk] at CK
  have CK := hide CK
  have CC := right_code v _ w.heap.size w1 (hvv.mono B1) B1.size
  rw [hr] at CC
  have CC := hide CC
  obtain ⟨c0, c1, c2, c3, c4⟩ := row_cell N1
  -- the store is seen from w1 on: its frame leaves the box alone
  have HA : Hid (∀ (u5 u6 : World) (V1 : Nat → Prop) (t' : Sx), Below w1.heap.size w1 u5 → Fr t.own u5 u6 → u6.heap[G]? = some (.cells #[.int .i64 t0, .int .i64 t1, .string t2, .slice t3 t4 t5, .slice t6 t7 t8] 32 (0, 0))) := hide (fun u5 u6 V1 t' hb hf => by
    have hl : G < u5.heap.size := by have := hb.size; omega
    have e5 := (hb.block G (by omega)).trans N1
    exact (hf.block G hl (fun e => by have := unhide HG _ e; omega)).trans e5)
  have HP2 : Hid (∀ (u : World) (cu : ThU), Below w1.heap.size w1 u → UOk u (VUp w u V) t.s k (cu, lookK X k) → Calls Tryz.prog 46 #[.pointer (some ⟨t.s, 0, none⟩), .string k, .agg (thU cu).toArray] u fun e w' => (∃ r, e = .returned r) ∧ (∃ V1 ms', Sto w' V1 { t with ms := ms' } ∧ Adv w w' V V1 t { t with ms := ms' } ∧ absM ms' = updLast (keepL k (lookK X k)) (absM t.ms)) ∧ w'.heap[G]? = some (.cells #[.int .i64 t0, .int .i64 t1, .string t2, .slice t3 t4 t5, .slice t6 t7 t8] 32 (0, 0))) := hide (fun u cu hu1 ok => by
    have hu : Below w.heap.size w u := B1.trans (hu1.mono B1.size)
    refine (keep_any (h.sto.up hu) k cu _ ok (fun m hm => by have := h.small m hm; omega)).mono ?_
    rintro e w' ⟨hr, ms', a, b, e1⟩
    exact ⟨hr, ⟨_, ms', a, (Adv.of hu t V).trans b, e1⟩, unhide HA u w' V t hu1 b.fr⟩)
  have H1 := hide (And.intro B1 N1)
  clear h B1 hv hvv hk hr N1 hf hP HA HG hkk
  obtain ⟨s, g, v0, l0, W, mv, ms⟩ := t
  dsimp only at CR HF HU HP2 HY HL ⊢
  go_enter Tryz.func9, Tryz.ntmps9
  go_wp2_with fail
  refine (unhide CR).mono ?_
  rintro e u1 ⟨rfl, hu1⟩
  obtain rfl := hu1.symm
  clear hu1
  go_wp2_with fail
  refine (unhide CK).mono ?_
  rintro e u1 ⟨rfl, hu1⟩
  obtain rfl := hu1.symm
  clear hu1
  go_wp2_with fail
  refine (unhide CC).mono ?_
  rintro e u2 ⟨rfl, b2⟩
  have H2 := hide (And.intro ((unhide H1).1.trans (b2.mono (unhide H1).1.size)) b2)
  have N2 := (b2.block G (Array.getElem?_eq_some_iff.1 (unhide H1).2).1).trans (unhide H1).2
  clear b2 c0 c1 c2 c3 c4
  obtain ⟨c0, c1, c2, c3, c4⟩ := row_cell N2
  clear N2
  have CF := hide (unhide HF u2 (unhide H2).1)
  go_wp2_with fail
  refine (unhide CF).mono ?_
  rintro e u3 ⟨rfl, b3⟩
  have H3 := hide (And.intro ((unhide H2).1.trans (b3.mono (unhide H2).1.size)) ((unhide H2).2.trans (b3.mono (unhide H2).2.size)))
  clear b3 c0 c1 c2 c3 c4
  have CD := hide (unhide HK u3 (unhide H3).1)
  go_wp2_with fail
  refine (unhide CD).mono ?_
  rintro e u4 ⟨rfl, b4⟩
  have H4 := hide (And.intro ((unhide H3).1.trans (b4.mono (unhide H3).1.size)) ((unhide H3).2.trans (b4.mono (unhide H3).2.size)))
  clear b4
  have CU := hide (unhide HU u4 (unhide H4).1)
  go_wp2_with fail
  refine (unhide CU).mono ?_
  rintro e u5 ⟨cu, rfl, b5, ok5⟩
  have CP := hide (unhide HP2 u5 cu ((unhide H4).2.trans (b5.mono (unhide H4).2.size)) ok5)
  obtain ⟨cu0, cu1, cu2, cu3⟩ := cu
  dsimp only [thU] at CP ⊢
  clear b5 ok5 CU CR CK CC CF CD HF HK HU HP2
  go_wp2_with fail
  refine (unhide CP).mono ?_
  rintro e u6 ⟨⟨r6, rfl⟩, ⟨V1, ms', s6, a6, e6⟩, n6⟩
  have CY := hide (unhide HY u6 V1 ms' s6 a6)
  have H6 := hide (And.intro s6 (And.intro a6 e6))
  obtain ⟨c0, c1, c2, c3, c4⟩ := row_cell n6
  clear s6 a6 e6 n6 CP HY
  go_wp2_with fail
  refine (unhide CY).mono ?_
  rintro e u7 ⟨c', rfl, b7, p7⟩
  have CL := hide (unhide HL u6 u7 V1 ms' c' (unhide H6).1 (unhide H6).2.1 (unhide H6).2.2 b7 p7)
  obtain ⟨x0, x1, x2, x3, x4, x5, x6, x7, x8⟩ := c'
  dsimp only [thV] at CL ⊢
  clear b7 p7 CY HL c0 c1 c2 c3 c4
  go_wp2_with fail
  refine (unhide CL).mono ?_
  rintro e u8 ⟨⟨r8, rfl⟩, p8⟩
  have H8 := hide p8
  clear p8 CL
  go_wp2_with fail
  go_ret
  exact ⟨rfl, unhide H8⟩

theorem put_store {P : Nat → Prop} (h : Stt w V t X Bs) (k : ByteArray) (v : Vl) (x : Value) (hv : IsP w P v x) (hP : ∀ j, P j → j < w.heap.size ∧ ¬ t.own j) :
    Calls Tryz.prog 9 #[.pointer (some ⟨t.s, 0, none⟩), .string k, x] w fun e w' => e = .returned (.int .i64 (putE X k v)) ∧ ∃ V' t', Stt w' V' t' (putX X k v) Bs ∧ Adv w w' V V' t t' := by
  obtain ⟨c, rfl⟩ := isP_th hv
  have hvv := hv.isV (fun b hb => (hP b hb).1)
  have stay : ∀ w', Below w.heap.size w w' → (putX X k v = X) → ∃ V' t', Stt w' V' t' (putX X k v) Bs ∧ Adv w w' V V' t t' := fun w' hb e => ⟨V, t, by rw [e]; exact h.later hb, Adv.of' hb t V⟩
  cases hk : keyB k with
  | false =>
    refine (put_bad h k v c hvv hk).mono ?_
    rintro e w' ⟨rfl, b⟩
    exact ⟨by simp [putE, hk], stay w' b (by simp [putX, hk])⟩
  | true =>
    cases hr : rightB v with
    | false =>
      refine (put_wrong h k v c hvv hk hr).mono ?_
      rintro e w' ⟨rfl, b⟩
      exact ⟨by simp [putE, hk, hr], stay w' b (by simp [putX, hr])⟩
    | true =>
      cases hf : fitX X k v with
      | false =>
        refine (put_full h k v c hvv hk hr (by rw [fit_eq h]; exact hf)).mono ?_
        rintro e w' ⟨rfl, b⟩
        exact ⟨by simp [putE, hk, hr, hf], stay w' b (by simp [putX, hf])⟩
      | true =>
        refine (put_fine h k v c hv hP hk hr hf).mono ?_
        rintro e w' ⟨rfl, p⟩
        refine ⟨by simp [putE, hk, hr, hf], ?_⟩
        rw [show putX X k v = putK X k v from by simp [putX, hk, hr, hf]]
        exact p

/-- what a taking away has done -/
theorem st_del (h : Stt w V t X Bs) {k : ByteArray} {v' : Value} {ms' : List Mk} (hs : Sto w' V' { t with ms := ms', v := v', l := delK t.l k, wg := t.wg - oldW t k }) (hm : absM ms' = updLast (fun l => forgetL (delK X k) k (keepL k (lookK X k) l)) (absM t.ms)) (hk : lookK X k ≠ none) :
    Stt w' V' { t with ms := ms', v := v', l := delK t.l k, wg := t.wg - oldW t k } (delK X k) Bs := by
  have h1 := tot_del X k
  have h4 := del_len X k
  have h5 := h.len
  have h6 := h.wt
  refine ⟨hs, ?_, ?_, by omega, by omega, ?_⟩
  · show mapK Prod.snd (delK t.l k) = _
    rw [mapK_del, ← h.ent]
    rfl
  · show t.wg - oldW t k = _
    have h2 := oldW_T h.sto k
    rw [h.ent] at h2
    have h3 := h.fine
    omega
  · show Chain _ (absM ms').reverse Bs
    rw [hm, rev_updLast]
    exact chain_del h.ch h.rk k hk

set_option maxRecDepth 100000 in
theorem del_not (h : Stt w V t X Bs) (k : ByteArray) (hk : lookK X k = none) :
    Calls Tryz.prog 22 #[.pointer (some ⟨t.s, 0, none⟩), .string k] w fun e w' => e = .returned (.bool false) ∧ Below w.heap.size w w' := by
  have CR := hide (rows_any h.sto)
  have CG := get_V h.sto.tab (mapK_rk _ h.sto.rk) k
  have hO : lookK t.l k = none := by
    rw [h.look] at hk
    exact Option.map_eq_none_iff.1 hk
  rw [mapK_look, hO] at CG
  have CG := hide CG
  clear h hk hO
  obtain ⟨s, g, v0, l0, W, mv, ms⟩ := t
  dsimp only [Option.map_none, Option.isSome_none] at CR CG ⊢
  go_enter Tryz.func22, Tryz.ntmps22
  go_wp2_with fail
  refine (unhide CR).mono ?_
  rintro e u1 ⟨rfl, hu1⟩
  obtain rfl := hu1.symm
  clear hu1
  go_wp2_with fail
  refine (unhide CG).mono ?_
  rintro e u2 ⟨rfl, b2⟩
  have H2 := hide b2
  clear b2
  go_wp2_with fail
  go_ret
  exact ⟨rfl, (unhide H2).trans ((Below.refl _ _).alloc (unhide H2).size _)⟩

set_option maxRecDepth 100000 in
set_option maxHeartbeats 800000 in
theorem del_there (h : Stt w V t X Bs) (k : ByteArray) (hk : lookK X k ≠ none) :
    Calls Tryz.prog 22 #[.pointer (some ⟨t.s, 0, none⟩), .string k] w fun e w' => e = .returned (.bool true) ∧ ∃ V' t', Stt w' V' t' (delK X k) Bs ∧ Adv w w' V V' t t' := by
  obtain ⟨⟨⟨t0, t1, t2, t3, t4, t5, t6, t7, t8⟩, xv⟩, hO⟩ : ∃ x, lookK t.l k = some x := by
    rw [h.look] at hk
    cases hO : lookK t.l k with
    | none => rw [hO] at hk; exact absurd rfl hk
    | some x => exact ⟨x, rfl⟩
  have hkk : KeyOk k := (h.sto.ok k _ (look_mem hO)).key
  have CR := hide (rows_any h.sto)
  have CG := get_inV h.sto.tab (mapK_rk _ h.sto.rk) k (t0, t1, t2, t3, t4, t5, t6, t7, t8) (by rw [mapK_look, hO]; rfl)
  dsimp only [thV] at CG
  have CG := hide CG
  have HK : Hid (∀ u, Calls Tryz.prog 45 #[.string k] u fun e w' => e = .returned (.string k) ∧ Below u.heap.size u w') := hide (fun u => str_clone k u (by have := hkk.2; omega))
  have HU : Hid (∀ u, Below w.heap.size w u → Calls Tryz.prog 47 #[.pointer (some ⟨t.s, 0, none⟩), .string k] u fun e w' => ∃ c : ThU, e = .returned (.agg (thU c).toArray) ∧ Below u.heap.size u w' ∧ UOk w' (VUp w w' V) t.s k (c, lookK X k)) := hide (fun u hu => by
    refine (undoing_any (h.sto.later hu) k hkk).mono ?_
    rintro e w' ⟨c, rfl, b, ok⟩
    rw [h.look]
    refine ⟨c, rfl, b, ok.to (fun _ _ => rfl) (fun j hj => ?_)⟩
    rcases hj with hj | ⟨h1, h2⟩
    · exact .inl hj
    · exact .inr ⟨by have := hu.size; omega, h2⟩)
  have HP : Hid (∀ (u : World) (cu : ThU), Below w.heap.size w u → UOk u (VUp w u V) t.s k (cu, lookK X k) → Calls Tryz.prog 46 #[.pointer (some ⟨t.s, 0, none⟩), .string k, .agg (thU cu).toArray] u fun e w' => (∃ r, e = .returned r) ∧ ∃ V1 ms', Sto w' V1 { t with ms := ms' } ∧ Adv w w' V V1 t { t with ms := ms' } ∧ absM ms' = updLast (keepL k (lookK X k)) (absM t.ms)) := hide (fun u cu hu ok => by
    refine (keep_any (h.sto.up hu) k cu _ ok (fun m hm => by have := h.small m hm; omega)).mono ?_
    rintro e w' ⟨hr, ms', a, b, e1⟩
    exact ⟨hr, _, ms', a, (Adv.of hu t V).trans b, e1⟩)
  have HT : Hid (∀ (u : World) (V1 : Nat → Prop) (ms' : List Mk), Sto u V1 { t with ms := ms' } → Adv w u V V1 t { t with ms := ms' } → Calls Tryz.prog 63 #[.pointer (some ⟨t.s, 0, none⟩), .string k] u fun e w' => (∃ r, e = .returned r) ∧ ∃ v', Sto w' V1 { t with ms := ms', v := v', l := delK t.l k, wg := t.wg - oldW t k } ∧ Adv w w' V V1 t { t with ms := ms', v := v', l := delK t.l k, wg := t.wg - oldW t k }) := hide (fun u V1 ms' hs ha => by
    refine (take_any hs h.rng k hkk.2).mono ?_
    rintro e w' ⟨hr, v', a, b⟩
    exact ⟨hr, v', a, ha.trans b⟩)
  have HF : Hid (∀ (u : World) (V1 : Nat → Prop) (ms' : List Mk) (v' : Value), Sto u V1 { t with ms := ms', v := v', l := delK t.l k, wg := t.wg - oldW t k } → Adv w u V V1 t { t with ms := ms', v := v', l := delK t.l k, wg := t.wg - oldW t k } → absM ms' = updLast (keepL k (lookK X k)) (absM t.ms) → Calls Tryz.prog 64 #[.pointer (some ⟨t.s, 0, none⟩), .string k] u fun e w' => (∃ r, e = .returned r) ∧ ∃ V' t', Stt w' V' t' (delK X k) Bs ∧ Adv w w' V V' t t') := hide (fun u V1 ms' v' hs ha e1 => by
    refine (forget_any hs k).mono ?_
    rintro e w' ⟨hr, ms2, a, b, e2⟩
    refine ⟨hr, _, _, st_del h a ?_ hk, ha.trans b⟩
    rw [e2]
    show updLast (forgetL (mapK Prod.snd (delK t.l k)) k) (absM ms') = _
    rw [mapK_del, e1, updLast_comp, ← h.ent]
    rfl)
  clear h hk hO hkk
  obtain ⟨s, g, v0, l0, W, mv, ms⟩ := t
  dsimp only at CR CG HU HP HT HF ⊢
  go_enter Tryz.func22, Tryz.ntmps22
  go_wp2_with fail
  refine (unhide CR).mono ?_
  rintro e u1 ⟨rfl, hu1⟩
  obtain rfl := hu1.symm
  clear hu1
  go_wp2_with fail
  refine (unhide CG).mono ?_
  rintro e u2 ⟨rfl, b2⟩
  obtain ⟨w2, hw2⟩ : ∃ w2, u2.alloc (.cells #[.int .i64 t0, .int .i64 t1, .string t2, .slice t3 t4 t5, .slice t6 t7 t8] 32) = w2 := ⟨_, rfl⟩
  have H2 : Hid (Below w.heap.size w w2) := hide (by rw [← hw2]; exact b2.trans ((Below.refl _ _).alloc b2.size _))
  have CD := hide (unhide HK w2)
  clear b2 CR CG HK
  go_wp2_with fail
  refine (unhide CD).mono ?_
  rintro e u3 ⟨rfl, b3⟩
  have H3 := hide ((unhide H2).trans (b3.mono (unhide H2).size))
  have CU := hide (unhide HU u3 (unhide H3))
  clear b3 CD HU hw2 H2
  go_wp2_with fail
  refine (unhide CU).mono ?_
  rintro e u4 ⟨cu, rfl, b4, ok4⟩
  have CP := hide (unhide HP u4 cu ((unhide H3).trans (b4.mono (unhide H3).size)) ok4)
  obtain ⟨cu0, cu1, cu2, cu3⟩ := cu
  dsimp only [thU] at CP ⊢
  clear b4 ok4 CU HP
  go_wp2_with fail
  refine (unhide CP).mono ?_
  rintro e u5 ⟨⟨r5, rfl⟩, V1, ms', s5, a5, e5⟩
  have CT := hide (unhide HT u5 V1 ms' s5 a5)
  have H5 := hide e5
  clear s5 a5 e5 CP HT
  go_wp2_with fail
  refine (unhide CT).mono ?_
  rintro e u6 ⟨⟨r6, rfl⟩, v', s6, a6⟩
  have CF := hide (unhide HF u6 V1 ms' v' s6 a6 (unhide H5))
  clear s6 a6 CT HF H5
  go_wp2_with fail
  refine (unhide CF).mono ?_
  rintro e u7 ⟨⟨r7, rfl⟩, p7⟩
  have H7 := hide p7
  clear p7 CF
  go_wp2_with fail
  go_ret
  exact ⟨rfl, unhide H7⟩

theorem del_store (h : Stt w V t X Bs) (k : ByteArray) :
    Calls Tryz.prog 22 #[.pointer (some ⟨t.s, 0, none⟩), .string k] w fun e w' => e = .returned (.bool (lookK X k).isSome) ∧ ∃ V' t', Stt w' V' t' (delK X k) Bs ∧ Adv w w' V V' t t' := by
  cases hk : lookK X k with
  | none =>
    refine (del_not h k hk).mono ?_
    rintro e w' ⟨rfl, b⟩
    refine ⟨rfl, V, t, ?_, Adv.of' b t V⟩
    rw [del_none X k hk]
    exact h.later b
  | some y =>
    refine (del_there h k (by rw [hk]; simp)).mono ?_
    rintro e w' ⟨rfl, p⟩
    exact ⟨rfl, p⟩
end
end Go.Proofs.YtdaooapfokhfcaaGreat
