/-
  The walk of done: one Op is done to a store; conditions: the form's own reach.
-/
import Derived.Test.YtdaooapfokhfcaaA33
import Derived.Test.YtdaooapfokhfcaaA35
namespace Go.Proofs.Ytdaooapfokhfcaa
open Go.RowKit
set_option linter.unusedVariables false
set_option linter.unusedSimpArgs false

/-- which of the nine -/
def kOf (o : Opx) : Int := pickI o.kd 9
theorem kOf_rng (o : Opx) : 0 ≤ kOf o ∧ kOf o < 9 := by
  unfold kOf pickI
  exact ⟨Int.emod_nonneg _ (by omega), Int.emod_lt_of_pos _ (by omega)⟩

/-- what is there behind one -/
def doX (X : Xs) (o : Opx) : Xs := if kOf o = 0 then putX X o.key o.v else if kOf o = 2 then delK X o.key else X

section
variable {w w' : World} {V V' : Nat → Prop} {t t' : Sx} {X B : Xs} {Bs : List Xs}

/-- what done leaves -/
def DonePost (w : World) (V : Nat → Prop) (t : Sx) (X : Xs) (Bs : List Xs) (e : Ending) (w' : World) : Prop := (∃ r, e = .returned r) ∧ ∃ V' t', Stt w' V' t' X Bs ∧ Adv w w' V V' t t'

theorem Stt.stay (h : Stt w V t X Bs) (hb : Below w.heap.size w w') (r : Value) : DonePost w V t X Bs (.returned r) w' := ⟨⟨r, rfl⟩, V, t, h.later hb, Adv.of' hb t V⟩

set_option maxRecDepth 100000 in
set_option maxHeartbeats 800000 in
theorem done_none {P : Nat → Prop} (h : Stt w V t X Bs) (kd : Int) (key : ByteArray) (v : Vl) (x0 x1 : Int) (x2 : ByteArray) (x3 : Option Addr) (x4 x5 : Nat) (x6 : Option Addr) (x7 x8 : Nat) (bk : -9223372036854775808 ≤ kd ∧ kd ≤ 9223372036854775807) (hv : IsP w P v (.agg #[.int .i64 x0, .int .i64 x1, .string x2, .slice x3 x4 x5, .slice x6 x7 x8])) (hP : ∀ j, P j → j < w.heap.size ∧ ¬ t.own j) (hk : 4 ≤ pickI kd 9) :
    Calls Try.prog 9 #[.pointer (some ⟨t.s, 0, none⟩), .agg #[.int .i64 kd, .string key, .int .i64 x0, .int .i64 x1, .string x2, .slice x3 x4 x5, .slice x6 x7 x8]] w fun e w' => DonePost w V t (X) Bs e w' := by
  obtain ⟨w1, hw1⟩ : ∃ w1, w.alloc (.cells #[.int .i64 kd, .string key, .int .i64 x0, .int .i64 x1, .string x2, .slice x3 x4 x5, .slice x6 x7 x8] 33) = w1 := ⟨_, rfl⟩
  obtain ⟨G, hG⟩ : ∃ G, w.heap.size = G := ⟨_, rfl⟩
  have B1 : Below w.heap.size w w1 := by rw [← hw1]; exact (Below.refl _ _).alloc (Nat.le_refl _) _
  have N1 : w1.heap[G]? = some (.cells #[.int .i64 kd, .string key, .int .i64 x0, .int .i64 x1, .string x2, .slice x3 x4 x5, .slice x6 x7 x8] 33 (0, 0)) := by rw [← hw1, ← hG]; exact heap_alloc_new w _
  have g0 : w1.cell? ⟨G, 0, none⟩ = some (.int .i64 kd) := by rw [cell_of_row w1 G 0 _ _ (0, 0) N1]; rfl
  have g1 : w1.cell? ⟨G, 1, none⟩ = some (.string key) := by rw [cell_of_row w1 G 1 _ _ (0, 0) N1]; rfl
  have CP := pick_any kd 9 w1 bk.1 bk.2 (by omega) (by omega)
  obtain ⟨K, hK⟩ : ∃ K, pickI kd 9 = K := ⟨_, rfl⟩
  rw [hK] at CP hk
  have CP := hide CP
  have k0 : (K == 0) = false := by simp; omega
  have k1 : (K == 1) = false := by simp; omega
  have k2 : (K == 2) = false := by simp; omega
  have k3 : (K == 3) = false := by simp; omega
  have HQ := hide (h.stay B1)
  clear h hv hP B1 N1 hK
  obtain ⟨s, g, v0, l0, W, mv, ms⟩ := t
  dsimp only at HQ ⊢
  go_enter Try.func9, Try.ntmps9
  go_wp2_with fail
  refine (unhide CP).mono ?_
  rintro e u1 ⟨rfl, hu1⟩
  obtain rfl := hu1.symm
  clear hu1
  go_wp2_with fail
  go_end0
  exact unhide HQ _

set_option maxRecDepth 100000 in
set_option maxHeartbeats 800000 in
theorem done_get {P : Nat → Prop} (h : Stt w V t X Bs) (kd : Int) (key : ByteArray) (v : Vl) (x0 x1 : Int) (x2 : ByteArray) (x3 : Option Addr) (x4 x5 : Nat) (x6 : Option Addr) (x7 x8 : Nat) (bk : -9223372036854775808 ≤ kd ∧ kd ≤ 9223372036854775807) (hv : IsP w P v (.agg #[.int .i64 x0, .int .i64 x1, .string x2, .slice x3 x4 x5, .slice x6 x7 x8])) (hP : ∀ j, P j → j < w.heap.size ∧ ¬ t.own j) (hk : pickI kd 9 = 1) :
    Calls Try.prog 9 #[.pointer (some ⟨t.s, 0, none⟩), .agg #[.int .i64 kd, .string key, .int .i64 x0, .int .i64 x1, .string x2, .slice x3 x4 x5, .slice x6 x7 x8]] w fun e w' => DonePost w V t (X) Bs e w' := by
  obtain ⟨w1, hw1⟩ : ∃ w1, w.alloc (.cells #[.int .i64 kd, .string key, .int .i64 x0, .int .i64 x1, .string x2, .slice x3 x4 x5, .slice x6 x7 x8] 33) = w1 := ⟨_, rfl⟩
  obtain ⟨G, hG⟩ : ∃ G, w.heap.size = G := ⟨_, rfl⟩
  have B1 : Below w.heap.size w w1 := by rw [← hw1]; exact (Below.refl _ _).alloc (Nat.le_refl _) _
  have N1 : w1.heap[G]? = some (.cells #[.int .i64 kd, .string key, .int .i64 x0, .int .i64 x1, .string x2, .slice x3 x4 x5, .slice x6 x7 x8] 33 (0, 0)) := by rw [← hw1, ← hG]; exact heap_alloc_new w _
  have g0 : w1.cell? ⟨G, 0, none⟩ = some (.int .i64 kd) := by rw [cell_of_row w1 G 0 _ _ (0, 0) N1]; rfl
  have g1 : w1.cell? ⟨G, 1, none⟩ = some (.string key) := by rw [cell_of_row w1 G 1 _ _ (0, 0) N1]; rfl
  have CP := pick_any kd 9 w1 bk.1 bk.2 (by omega) (by omega)
  rw [hk] at CP
  have CP := hide CP
  have CG := hide (get_store (h.later B1) key)
  have HQ : Hid (∀ u, Below w1.heap.size w1 u → ∀ r, DonePost w V t X Bs (.returned r) u) := hide (fun u hu => h.stay (B1.trans (hu.mono B1.size)))
  clear h hv hP B1 N1 hk
  obtain ⟨s, g, v0, l0, W, mv, ms⟩ := t
  dsimp only at CG HQ ⊢
  go_enter Try.func9, Try.ntmps9
  go_wp2_with fail
  refine (unhide CP).mono ?_
  rintro e u1 ⟨rfl, hu1⟩
  obtain rfl := hu1.symm
  clear hu1
  go_wp2_with fail
  refine (unhide CG).mono ?_
  rintro e u2 ⟨x, rfl, b2, -⟩
  have H2 := hide b2
  clear b2
  go_wp2_with fail
  go_end0
  exact unhide HQ _ (unhide H2) _

set_option maxRecDepth 100000 in
set_option maxHeartbeats 800000 in
theorem done_after {P : Nat → Prop} (h : Stt w V t X Bs) (kd : Int) (key : ByteArray) (v : Vl) (x0 x1 : Int) (x2 : ByteArray) (x3 : Option Addr) (x4 x5 : Nat) (x6 : Option Addr) (x7 x8 : Nat) (bk : -9223372036854775808 ≤ kd ∧ kd ≤ 9223372036854775807) (hv : IsP w P v (.agg #[.int .i64 x0, .int .i64 x1, .string x2, .slice x3 x4 x5, .slice x6 x7 x8])) (hP : ∀ j, P j → j < w.heap.size ∧ ¬ t.own j) (hk : pickI kd 9 = 3) :
    Calls Try.prog 9 #[.pointer (some ⟨t.s, 0, none⟩), .agg #[.int .i64 kd, .string key, .int .i64 x0, .int .i64 x1, .string x2, .slice x3 x4 x5, .slice x6 x7 x8]] w fun e w' => DonePost w V t (X) Bs e w' := by
  obtain ⟨w1, hw1⟩ : ∃ w1, w.alloc (.cells #[.int .i64 kd, .string key, .int .i64 x0, .int .i64 x1, .string x2, .slice x3 x4 x5, .slice x6 x7 x8] 33) = w1 := ⟨_, rfl⟩
  obtain ⟨G, hG⟩ : ∃ G, w.heap.size = G := ⟨_, rfl⟩
  have B1 : Below w.heap.size w w1 := by rw [← hw1]; exact (Below.refl _ _).alloc (Nat.le_refl _) _
  have N1 : w1.heap[G]? = some (.cells #[.int .i64 kd, .string key, .int .i64 x0, .int .i64 x1, .string x2, .slice x3 x4 x5, .slice x6 x7 x8] 33 (0, 0)) := by rw [← hw1, ← hG]; exact heap_alloc_new w _
  have g0 : w1.cell? ⟨G, 0, none⟩ = some (.int .i64 kd) := by rw [cell_of_row w1 G 0 _ _ (0, 0) N1]; rfl
  have g1 : w1.cell? ⟨G, 1, none⟩ = some (.string key) := by rw [cell_of_row w1 G 1 _ _ (0, 0) N1]; rfl
  have CP := pick_any kd 9 w1 bk.1 bk.2 (by omega) (by omega)
  rw [hk] at CP
  have CP := hide CP
  have CG := hide (after_store (h.later B1) key)
  have HQ : Hid (∀ u, Below w1.heap.size w1 u → ∀ r, DonePost w V t X Bs (.returned r) u) := hide (fun u hu => h.stay (B1.trans (hu.mono B1.size)))
  clear h hv hP B1 N1 hk
  obtain ⟨s, g, v0, l0, W, mv, ms⟩ := t
  dsimp only at CG HQ ⊢
  go_enter Try.func9, Try.ntmps9
  go_wp2_with fail
  refine (unhide CP).mono ?_
  rintro e u1 ⟨rfl, hu1⟩
  obtain rfl := hu1.symm
  clear hu1
  go_wp2_with fail
  refine (unhide CG).mono ?_
  rintro e u2 ⟨rfl, b2⟩
  have H2 := hide b2
  clear b2
  go_wp2_with fail
  go_end0
  exact unhide HQ _ (unhide H2) _

set_option maxRecDepth 100000 in
set_option maxHeartbeats 800000 in
theorem done_del {P : Nat → Prop} (h : Stt w V t X Bs) (kd : Int) (key : ByteArray) (v : Vl) (x0 x1 : Int) (x2 : ByteArray) (x3 : Option Addr) (x4 x5 : Nat) (x6 : Option Addr) (x7 x8 : Nat) (bk : -9223372036854775808 ≤ kd ∧ kd ≤ 9223372036854775807) (hv : IsP w P v (.agg #[.int .i64 x0, .int .i64 x1, .string x2, .slice x3 x4 x5, .slice x6 x7 x8])) (hP : ∀ j, P j → j < w.heap.size ∧ ¬ t.own j) (hk : pickI kd 9 = 2) :
    Calls Try.prog 9 #[.pointer (some ⟨t.s, 0, none⟩), .agg #[.int .i64 kd, .string key, .int .i64 x0, .int .i64 x1, .string x2, .slice x3 x4 x5, .slice x6 x7 x8]] w fun e w' => DonePost w V t (delK X key) Bs e w' := by
  obtain ⟨w1, hw1⟩ : ∃ w1, w.alloc (.cells #[.int .i64 kd, .string key, .int .i64 x0, .int .i64 x1, .string x2, .slice x3 x4 x5, .slice x6 x7 x8] 33) = w1 := ⟨_, rfl⟩
  obtain ⟨G, hG⟩ : ∃ G, w.heap.size = G := ⟨_, rfl⟩
  have B1 : Below w.heap.size w w1 := by rw [← hw1]; exact (Below.refl _ _).alloc (Nat.le_refl _) _
  have N1 : w1.heap[G]? = some (.cells #[.int .i64 kd, .string key, .int .i64 x0, .int .i64 x1, .string x2, .slice x3 x4 x5, .slice x6 x7 x8] 33 (0, 0)) := by rw [← hw1, ← hG]; exact heap_alloc_new w _
  have g0 : w1.cell? ⟨G, 0, none⟩ = some (.int .i64 kd) := by rw [cell_of_row w1 G 0 _ _ (0, 0) N1]; rfl
  have g1 : w1.cell? ⟨G, 1, none⟩ = some (.string key) := by rw [cell_of_row w1 G 1 _ _ (0, 0) N1]; rfl
  have CP := pick_any kd 9 w1 bk.1 bk.2 (by omega) (by omega)
  rw [hk] at CP
  have CP := hide CP
  have CG : Hid (Calls Try.prog 35 #[.pointer (some ⟨t.s, 0, none⟩), .string key] w1 fun e w' => ∃ b, e = .returned (.bool b) ∧ ∃ V' t', Stt w' V' t' (delK X key) Bs ∧ Adv w w' V V' t t') := hide ((del_store (h.later B1) key).mono (fun e w' hh => by
    obtain ⟨rfl, V', t', a, b⟩ := hh
    exact ⟨_, rfl, V', t', a, (Adv.of' B1 t V).trans b⟩))
  clear h hv hP B1 N1 hk
  obtain ⟨s, g, v0, l0, W, mv, ms⟩ := t
  dsimp only at CG ⊢
  go_enter Try.func9, Try.ntmps9
  go_wp2_with fail
  refine (unhide CP).mono ?_
  rintro e u1 ⟨rfl, hu1⟩
  obtain rfl := hu1.symm
  clear hu1
  go_wp2_with fail
  refine (unhide CG).mono ?_
  rintro e u2 ⟨b, rfl, p2⟩
  have H2 := hide p2
  clear p2
  go_wp2_with fail
  go_end0
  exact ⟨⟨_, rfl⟩, unhide H2⟩

set_option maxRecDepth 100000 in
set_option maxHeartbeats 800000 in
theorem done_put {P : Nat → Prop} (h : Stt w V t X Bs) (kd : Int) (key : ByteArray) (v : Vl) (x0 x1 : Int) (x2 : ByteArray) (x3 : Option Addr) (x4 x5 : Nat) (x6 : Option Addr) (x7 x8 : Nat) (bk : -9223372036854775808 ≤ kd ∧ kd ≤ 9223372036854775807) (hv : IsP w P v (.agg #[.int .i64 x0, .int .i64 x1, .string x2, .slice x3 x4 x5, .slice x6 x7 x8])) (hP : ∀ j, P j → j < w.heap.size ∧ ¬ t.own j) (hk : pickI kd 9 = 0) :
    Calls Try.prog 9 #[.pointer (some ⟨t.s, 0, none⟩), .agg #[.int .i64 kd, .string key, .int .i64 x0, .int .i64 x1, .string x2, .slice x3 x4 x5, .slice x6 x7 x8]] w fun e w' => DonePost w V t (putX X key v) Bs e w' := by
  obtain ⟨w1, hw1⟩ : ∃ w1, w.alloc (.cells #[.int .i64 kd, .string key, .int .i64 x0, .int .i64 x1, .string x2, .slice x3 x4 x5, .slice x6 x7 x8] 33) = w1 := ⟨_, rfl⟩
  obtain ⟨G, hG⟩ : ∃ G, w.heap.size = G := ⟨_, rfl⟩
  have B1 : Below w.heap.size w w1 := by rw [← hw1]; exact (Below.refl _ _).alloc (Nat.le_refl _) _
  have N1 : w1.heap[G]? = some (.cells #[.int .i64 kd, .string key, .int .i64 x0, .int .i64 x1, .string x2, .slice x3 x4 x5, .slice x6 x7 x8] 33 (0, 0)) := by rw [← hw1, ← hG]; exact heap_alloc_new w _
  have g0 : w1.cell? ⟨G, 0, none⟩ = some (.int .i64 kd) := by rw [cell_of_row w1 G 0 _ _ (0, 0) N1]; rfl
  have g1 : w1.cell? ⟨G, 1, none⟩ = some (.string key) := by rw [cell_of_row w1 G 1 _ _ (0, 0) N1]; rfl
  have CP := pick_any kd 9 w1 bk.1 bk.2 (by omega) (by omega)
  rw [hk] at CP
  have CP := hide CP
  have C1 : Below w.heap.size w w1.drew := B1.drew
  have hz1 : w1.heap.size = G + 1 := by rw [← hw1, ← hG]; simp
  have CC : Hid (Calls Try.prog 34 #[.agg #[.int .i64 x0, .int .i64 x1, .string x2, .slice x3 x4 x5, .slice x6 x7 x8]] w1.drew fun e w' => ∃ c : ThV, e = .returned (.agg (thV c).toArray) ∧ Below w1.drew.heap.size w1.drew w' ∧ ∃ Q : Nat → Prop, IsP w' Q v (.agg (thV c).toArray) ∧ ∀ j, Q j → j < w'.heap.size ∧ ¬ t.own j) := hide (by
    have hb0 : ∀ j, t.own j → j < w.heap.size := fun j hj => h.sto.lt hj
    have hvv : IsV w1.drew w1.drew.heap.size v (.agg #[.int .i64 x0, .int .i64 x1, .string x2, .slice x3 x4 x5, .slice x6 x7 x8]) := (hv.move (fun j hj => C1.block j (hP j hj).1)).isV (fun j hj => Nat.lt_of_lt_of_le (hP j hj).1 C1.size)
    have key2 : ∀ (e : Ending) (w' : World), (∃ x', e = .returned x' ∧ IsV w' w'.heap.size v x' ∧ Below w1.drew.heap.size w1.drew w' ∧ (fewB v = true → IsQ w' (fun b => w1.drew.heap.size ≤ b ∧ b < w'.heap.size) v x') ∧ (fewB v = false → x' = .agg #[.int .i64 x0, .int .i64 x1, .string x2, .slice x3 x4 x5, .slice x6 x7 x8])) → ∃ c : ThV, e = .returned (.agg (thV c).toArray) ∧ Below w1.drew.heap.size w1.drew w' ∧ ∃ Q : Nat → Prop, IsP w' Q v (.agg (thV c).toArray) ∧ ∀ j, Q j → j < w'.heap.size ∧ ¬ t.own j := fun e w' hh => by
      obtain ⟨x', rfl, i1, b, f1, f2⟩ := hh
      cases hf : fewB v with
      | true =>
        have hq := f1 hf
        obtain ⟨c, rfl⟩ := isP_th hq.1
        exact ⟨c, rfl, b, _, hq.1, fun j hj => ⟨hj.2, fun e => by have h1 := hb0 j e; have h2 := hj.1; have h3 := C1.size; omega⟩⟩
      | false =>
        have hx := f2 hf
        subst hx
        refine ⟨(x0, x1, x2, x3, x4, x5, x6, x7, x8), rfl, b, P, hv.move (fun j hj => (b.block j (Nat.lt_of_lt_of_le (hP j hj).1 C1.size)).trans (C1.block j (hP j hj).1)), fun j hj => ⟨?_, (hP j hj).2⟩⟩
        have h1 := (hP j hj).1
        have h2 := C1.size
        have h3 := b.size
        omega
    exact (copied_two v _ _ w1.drew hvv (Nat.le_refl _)).mono (fun e w' hh => key2 e w' hh))
  have HPu : Hid (∀ (u : World) (Q : Nat → Prop) (c : ThV), Below w1.drew.heap.size w1.drew u → IsP u Q v (.agg (thV c).toArray) → (∀ j, Q j → j < u.heap.size ∧ ¬ t.own j) → Calls Try.prog 8 #[.pointer (some ⟨t.s, 0, none⟩), .string key, .agg (thV c).toArray] u fun e w' => ∃ r, e = .returned r ∧ w'.heap[G]? = u.heap[G]? ∧ ∃ V' t', Stt w' V' t' (putX X key v) Bs ∧ Adv w w' V V' t t') := hide (fun u Q c hb hp hq => by
    have hu := C1.trans (hb.mono C1.size)
    refine (put_store (h.later hu) key v _ hp hq).mono ?_
    rintro e w' ⟨rfl, V', t', a, b⟩
    exact ⟨_, rfl, b.fr.block G (by have h1 := hb.size; have h2 : w1.drew.heap.size = G + 1 := hz1; omega) (fun e => by have := h.sto.lt e; omega), V', t', a, (Adv.of' hu t V).trans b⟩)
  have HS0 : Hid (w1.drew.cell? ⟨G, 1, none⟩ = some (.string key) ∧ w1.drew.cell? ⟨G, 2, none⟩ = some (.int .i64 x0) ∧ w1.drew.cell? ⟨G, 3, none⟩ = some (.int .i64 x1) ∧ w1.drew.cell? ⟨G, 4, none⟩ = some (.string x2) ∧ w1.drew.cell? ⟨G, 5, none⟩ = some (.slice x3 x4 x5) ∧ w1.drew.cell? ⟨G, 6, none⟩ = some (.slice x6 x7 x8)) := hide ⟨by rw [cell_of_row _ G 1 _ _ (0, 0) (show w1.drew.heap[G]? = _ from N1)]; rfl, by rw [cell_of_row _ G 2 _ _ (0, 0) (show w1.drew.heap[G]? = _ from N1)]; rfl, by rw [cell_of_row _ G 3 _ _ (0, 0) (show w1.drew.heap[G]? = _ from N1)]; rfl, by rw [cell_of_row _ G 4 _ _ (0, 0) (show w1.drew.heap[G]? = _ from N1)]; rfl, by rw [cell_of_row _ G 5 _ _ (0, 0) (show w1.drew.heap[G]? = _ from N1)]; rfl, by rw [cell_of_row _ G 6 _ _ (0, 0) (show w1.drew.heap[G]? = _ from N1)]; rfl⟩
  clear h hv hP B1 N1 hk C1
  obtain ⟨s, g, v0, l0, W, mv, ms⟩ := t
  dsimp only at CC HPu ⊢
  go_enter Try.func9, Try.ntmps9
  go_wp2_with fail
  refine (unhide CP).mono ?_
  rintro e u1 ⟨rfl, hu1⟩
  obtain rfl := hu1.symm
  clear hu1
  go_upto_region 3 with fail
  go_region_held3 (fun w' => w'.cell? ⟨G, 1, none⟩ = some (.string key) ∧ w'.cell? ⟨G, 2, none⟩ = some (.int .i64 x0) ∧ w'.cell? ⟨G, 3, none⟩ = some (.int .i64 x1) ∧ w'.cell? ⟨G, 4, none⟩ = some (.string x2) ∧ w'.cell? ⟨G, 5, none⟩ = some (.slice x3 x4 x5) ∧ w'.cell? ⟨G, 6, none⟩ = some (.slice x6 x7 x8))
    (first | assumption | exact unhide HS0 | exact unhide HS5 | exact unhide HS6)
    (first | (go_at_call 34; refine (unhide CC).mono ?_; rintro e w5 ⟨⟨y0, y1, y2, y3, y4, y5, y6, y7, y8⟩, rfl, b5, Q5, p5, hQ5⟩; dsimp only [thV] at p5 ⊢; have HS5 : Hid (w5.cell? ⟨G, 1, none⟩ = some (.string key) ∧ w5.cell? ⟨G, 2, none⟩ = some (.int .i64 x0) ∧ w5.cell? ⟨G, 3, none⟩ = some (.int .i64 x1) ∧ w5.cell? ⟨G, 4, none⟩ = some (.string x2) ∧ w5.cell? ⟨G, 5, none⟩ = some (.slice x3 x4 x5) ∧ w5.cell? ⟨G, 6, none⟩ = some (.slice x6 x7 x8)) := hide ⟨cell_later b5 ((unhide HS0).1), cell_later b5 ((unhide HS0).2.1), cell_later b5 ((unhide HS0).2.2.1), cell_later b5 ((unhide HS0).2.2.2.1), cell_later b5 ((unhide HS0).2.2.2.2.1), cell_later b5 ((unhide HS0).2.2.2.2.2)⟩; have CPu := hide (unhide HPu w5 Q5 (y0, y1, y2, y3, y4, y5, y6, y7, y8) b5 p5 hQ5); dsimp only [thV] at CPu; clear b5 p5 hQ5) | (go_at_call 8; refine (unhide CPu).mono ?_; rintro e w6 ⟨r, rfl, e6, p6⟩; have HS6 : Hid (w6.cell? ⟨G, 1, none⟩ = some (.string key) ∧ w6.cell? ⟨G, 2, none⟩ = some (.int .i64 x0) ∧ w6.cell? ⟨G, 3, none⟩ = some (.int .i64 x1) ∧ w6.cell? ⟨G, 4, none⟩ = some (.string x2) ∧ w6.cell? ⟨G, 5, none⟩ = some (.slice x3 x4 x5) ∧ w6.cell? ⟨G, 6, none⟩ = some (.slice x6 x7 x8)) := hide ⟨cell_block e6 ((unhide HS5).1), cell_block e6 ((unhide HS5).2.1), cell_block e6 ((unhide HS5).2.2.1), cell_block e6 ((unhide HS5).2.2.2.1), cell_block e6 ((unhide HS5).2.2.2.2.1), cell_block e6 ((unhide HS5).2.2.2.2.2)⟩; have H6 := hide p6; clear p6 e6))
  go_wp2_with fail
  go_end0
  exact ⟨⟨_, rfl⟩, unhide H6⟩

theorem done_any {P : Nat → Prop} (h : Stt w V t X Bs) (o : Opx) (x0 x1 : Int) (x2 : ByteArray) (x3 : Option Addr) (x4 x5 : Nat) (x6 : Option Addr) (x7 x8 : Nat) (bk : -9223372036854775808 ≤ o.kd ∧ o.kd ≤ 9223372036854775807) (hv : IsP w P o.v (.agg #[.int .i64 x0, .int .i64 x1, .string x2, .slice x3 x4 x5, .slice x6 x7 x8])) (hP : ∀ j, P j → j < w.heap.size ∧ ¬ t.own j) :
    Calls Try.prog 9 #[.pointer (some ⟨t.s, 0, none⟩), .agg #[.int .i64 o.kd, .string o.key, .int .i64 x0, .int .i64 x1, .string x2, .slice x3 x4 x5, .slice x6 x7 x8]] w fun e w' => DonePost w V t (doX X o) Bs e w' := by
  have hr := kOf_rng o
  rcases (show kOf o = 0 ∨ kOf o = 1 ∨ kOf o = 2 ∨ kOf o = 3 ∨ 4 ≤ kOf o by omega) with hk | hk | hk | hk | hk
  · have e : doX X o = putX X o.key o.v := by simp [doX, hk]
    rw [e]
    exact done_put h _ _ _ _ _ _ _ _ _ _ _ _ bk hv hP hk
  · have e : doX X o = X := by simp [doX, hk]
    rw [e]
    exact done_get h _ _ _ _ _ _ _ _ _ _ _ _ bk hv hP hk
  · have e : doX X o = delK X o.key := by simp [doX, hk]
    rw [e]
    exact done_del h _ _ _ _ _ _ _ _ _ _ _ _ bk hv hP hk
  · have e : doX X o = X := by simp [doX, hk]
    rw [e]
    exact done_after h _ _ _ _ _ _ _ _ _ _ _ _ bk hv hP hk
  · have e : doX X o = X := by
      unfold doX
      rw [if_neg (by omega), if_neg (by omega)]
    rw [e]
    exact done_none h _ _ _ _ _ _ _ _ _ _ _ _ bk hv hP hk
end
end Go.Proofs.Ytdaooapfokhfcaa
