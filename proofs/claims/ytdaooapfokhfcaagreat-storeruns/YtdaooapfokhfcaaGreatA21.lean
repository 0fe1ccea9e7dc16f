/-
  store's New, rows, keyed, weigh, fits; conditions: the form's own reach.
-/
import Derived.Test.YtdaooapfokhfcaaGreatA20
namespace Go.Proofs.YtdaooapfokhfcaaGreat
open Go.RowKit
set_option linter.unusedVariables false
set_option linter.unusedSimpArgs false

theorem isP_th {w : World} {P : Nat → Prop} {v : Vl} {x : Value} (h : IsP w P v x) : ∃ c : ThV, x = .agg (thV c).toArray := by
  obtain ⟨kind, n, s, l, ks, al, ak, cl, ck, _, rfl⟩ := h.shape
  exact ⟨(kind, n, s, al, l.length, cl, ak, ks.length, ck), rfl⟩

theorem wt0_le (v : Vl) : wt0 v ≤ 2048 := by
  unfold wt0
  split
  · rename_i h
    simp only [rightB, Bool.and_eq_true, decide_eq_true_eq] at h
    exact h.2
  · omega

set_option maxRecDepth 100000 in
theorem store_new (w : World) : Calls Tryz.prog 5 #[] w fun e w' => ∃ t, e = .returned (.pointer (some ⟨t.s, 0, none⟩)) ∧ Sto w' (fun _ => False) t ∧ t.l = [] ∧ t.wg = 0 ∧ t.ms = [] ∧ (∀ j, t.own j → w.heap.size ≤ j) ∧ Below w.heap.size w w' := by
  go_enter Tryz.func5, Tryz.ntmps5
  go_wp2_with fail
  refine (new_V _).mono ?_
  rintro e w1 ⟨rfl, hw1⟩
  obtain ⟨g, hg⟩ : ∃ g, w.heap.size = g := ⟨_, rfl⟩
  have N1 : w1.heap[g]? = some (.cells #[.slice none 0 0] 81 (0, 0)) := by rw [hw1, ← hg]; exact heap_alloc_new w _
  have B1 : Below w.heap.size w w1 := by rw [hw1]; exact (Below.refl _ _).alloc (Nat.le_refl _) _
  have Z1 : w1.heap.size = g + 1 := by rw [hw1, ← hg]; simp
  rw [hg]
  clear hw1
  go_wp2_with fail
  obtain ⟨w2, hw2⟩ : ∃ w2, w1.alloc (.cells #[.pointer (some ⟨g, 0, none⟩), .int .i64 0, .slice none 0 0] 52) = w2 := ⟨_, rfl⟩
  have N2 := heap_alloc_new w1 (.cells #[.pointer (some ⟨g, 0, none⟩), .int .i64 0, .slice none 0 0] 52)
  have B2 : Below w1.heap.size w1 w2 := by rw [← hw2]; exact (Below.refl _ _).alloc (Nat.le_refl _) _
  rw [hw2, Z1] at N2
  rw [hw2]
  go_ret
  have N1' := (B2.block g (by omega)).trans N1
  have hown : ∀ j, Sx.own ⟨g + 1, g, .slice none 0 0, [], 0, .slice none 0 0, []⟩ j → w.heap.size ≤ j := fun j hj => by
    rcases hj with e | e | e | e | ⟨m, hm, _⟩
    · simp at e; omega
    · simp at e; omega
    · cases e
    · cases e
    · cases hm
  exact ⟨⟨g + 1, g, .slice none 0 0, [], 0, .slice none 0 0, []⟩, rfl, ⟨N2, ⟨N1', World.ownsRow_nil _ _ _ _⟩, List.Pairwise.nil, (fun k x hx => by cases hx), World.ownsRow_nil _ _ _ _, (fun m hm => by cases hm), List.Pairwise.nil, (fun j hj => hj.elim)⟩, rfl, rfl, rfl, hown, B1.trans (B2.mono B1.size)⟩

section
variable {w : World} {V : Nat → Prop} {t : Sx}

theorem Sto.c0 (h : Sto w V t) : w.cell? ⟨t.s, 0, none⟩ = some (.pointer (some ⟨t.g, 0, none⟩)) := by rw [cell_of_row w t.s 0 _ _ (0, 0) h.box]; rfl
theorem Sto.c1 (h : Sto w V t) : w.cell? ⟨t.s, 1, none⟩ = some (.int .i64 t.wg) := by rw [cell_of_row w t.s 1 _ _ (0, 0) h.box]; rfl
theorem Sto.c2 (h : Sto w V t) : w.cell? ⟨t.s, 2, none⟩ = some t.mv := by rw [cell_of_row w t.s 2 _ _ (0, 0) h.box]; rfl

set_option maxRecDepth 100000 in
theorem rows_any (h : Sto w V t) : Calls Tryz.prog 41 #[.pointer (some ⟨t.s, 0, none⟩)] w fun e w' => e = .returned (.pointer (some ⟨t.g, 0, none⟩)) ∧ w' = w := by
  have c0 := h.c0
  clear h
  go_enter Tryz.func41, Tryz.ntmps41
  go_wp2_with fail
  go_ret
  exact ⟨rfl, rfl⟩
end

def keyB (k : ByteArray) : Bool := decide (1 ≤ k.size) && decide (k.size ≤ 32)
theorem keyB_iff (k : ByteArray) : keyB k = true ↔ KeyOk k := by simp [keyB, KeyOk]

set_option maxRecDepth 100000 in
theorem keyed_any (k : ByteArray) (w : World) : Calls Tryz.prog 42 #[.string k] w fun e w' => e = .returned (.bool (keyB k)) ∧ w' = w := by
  have hk : keyB k = (decide (1 ≤ k.size) && decide (k.size ≤ 32)) := rfl
  obtain ⟨n, hn⟩ : ∃ n, k.size = n := ⟨_, rfl⟩
  rw [hn] at hk
  by_cases h1 : 1 ≤ n
  · have i1 : (1 : Int) ≤ (n : Int) := by omega
    have g1 : decide (1 ≤ n) = true := by simpa using h1
    by_cases h2 : n ≤ 32
    · have i2 : (n : Int) ≤ 32 := by omega
      have g2 : decide (n ≤ 32) = true := by simpa using h2
      rw [g1, g2] at hk
      rw [hk]
      go_enter Tryz.func42, Tryz.ntmps42
      go_wp2_with fail
      go_ret
      simp [hn, i1, i2, h1, h2]
    · have i2 : ¬ (n : Int) ≤ 32 := by omega
      have g2 : decide (n ≤ 32) = false := by simpa using h2
      rw [g1, g2] at hk
      rw [hk]
      go_enter Tryz.func42, Tryz.ntmps42
      go_wp2_with fail
      go_ret
      simp [hn, i1, i2, h1, h2]
  · have i1 : ¬ (1 : Int) ≤ (n : Int) := by omega
    have g1 : decide (1 ≤ n) = false := by simpa using h1
    rw [g1, Bool.false_and] at hk
    rw [hk]
    go_enter Tryz.func42, Tryz.ntmps42
    go_wp2_with fail
    go_ret
    simp [hn, i1, h1]

set_option maxRecDepth 100000 in
theorem weigh_store (k : ByteArray) (hk : k.size ≤ 32) (v : Vl) (c : ThV) (B : Nat) (w : World) (hv : IsV w B v (.agg (thV c).toArray)) (hB : B ≤ w.heap.size) :
    Calls Tryz.prog 75 #[.string k, .agg (thV c).toArray] w fun e w' => e = .returned (.int .i64 (ew (k, v) : Int)) ∧ Below w.heap.size w w' := by
  have CW : Hid (∀ u, Below w.heap.size w u → Calls Tryz.prog 96 #[.agg (thV c).toArray] u fun e w' => e = .returned (.int .i64 (wt0 v : Int)) ∧ Below u.heap.size u w') := hide (fun u hu => weight_code v _ B u (hv.mono (hu.mono hB)) (Nat.le_trans hB hu.size))
  have hw := wt0_le v
  obtain ⟨m, hm⟩ : ∃ m, wt0 v = m := ⟨_, rfl⟩
  have he : ew (k, v) = 1 + k.size + m := by rw [← hm]; rfl
  rw [hm] at CW hw
  obtain ⟨n, hn⟩ : ∃ n, k.size = n := ⟨_, rfl⟩
  rw [he, hn]
  rw [hn] at hk
  clear hv hm he
  obtain ⟨t0, t1, t2, t3, t4, t5, t6, t7, t8⟩ := c
  dsimp only [thV] at CW ⊢
  have HK := hide hn
  go_enter Tryz.func75, Tryz.ntmps75
  go_wp2_with fail
  refine (unhide CW _ ((Below.refl _ _).alloc (Nat.le_refl _) _)).mono ?_
  rintro e w1 ⟨rfl, b1⟩
  have B1 : Below w.heap.size w w1 := ((Below.refl _ _).alloc (Nat.le_refl _) _).trans (b1.mono (by simp))
  clear b1 CW
  go_wp2_with fail
  go_ret
  refine ⟨?_, B1⟩
  first | rfl | (simp [unhide HK]; omega)

def oldW (t : Sx) (k : ByteArray) : Int := match lookK t.l k with | some x => (ew (k, x.2) : Int) | none => 0
def fitB (t : Sx) (k : ByteArray) (v : Vl) : Bool := decide ((t.l.length : Int) + 1 - (if (lookK t.l k).isSome then 1 else 0) ≤ 128) && decide (t.wg + (ew (k, v) : Int) - oldW t k ≤ 32768)

theorem ew_le (k : ByteArray) (v : Vl) (hk : k.size ≤ 32) : ew (k, v) ≤ 2081 := by
  have := wt0_le v
  unfold ew
  dsimp only
  omega

set_option maxRecDepth 100000 in
set_option maxHeartbeats 800000 in
theorem fits_any {w : World} {V : Nat → Prop} {t : Sx} (h : Sto w V t) (hl : t.l.length ≤ 1000000) (hw : -1000000000000 ≤ t.wg ∧ t.wg ≤ 1000000000000) (k : ByteArray) (hk : k.size ≤ 32) (v : Vl) (c : ThV) (B : Nat) (hv : IsV w B v (.agg (thV c).toArray)) (hB : B ≤ w.heap.size) :
    Calls Tryz.prog 44 #[.pointer (some ⟨t.s, 0, none⟩), .string k, .agg (thV c).toArray] w fun e w' => e = .returned (.bool (fitB t k v)) ∧ Below w.heap.size w w' := by
  have hfit : fitB t k v = (decide ((t.l.length : Int) + 1 - (if (lookK t.l k).isSome then 1 else 0) ≤ 128) && decide (t.wg + (ew (k, v) : Int) - oldW t k ≤ 32768)) := rfl
  have hlen : (mapK Prod.fst t.l).length = t.l.length := mapK_len _ _
  have CL : Hid (∀ u, Below w.heap.size w u → Calls Tryz.prog 54 #[.pointer (some ⟨t.g, 0, none⟩)] u fun e w' => e = .returned (.int .i64 t.l.length) ∧ w' = u) := hide (fun u hu => by rw [← hlen]; exact len_V (h.tab.below hu))
  have CW : Hid (∀ u, Below w.heap.size w u → Calls Tryz.prog 75 #[.string k, .agg (thV c).toArray] u fun e w' => e = .returned (.int .i64 (ew (k, v) : Int)) ∧ Below u.heap.size u w') := hide (fun u hu => weigh_store k hk v c B u (hv.mono (hu.mono hB)) (Nat.le_trans hB hu.size))
  have CG : Hid (∀ u, Below w.heap.size w u → Calls Tryz.prog 55 #[.pointer (some ⟨t.g, 0, none⟩), .string k] u fun e w' => e = .returned (.tuple #[.agg (match lookK (mapK Prod.fst t.l) k with | some t => (thV t).toArray | none => #[.int .i64 0, .int .i64 0, .string ⟨#[]⟩, .slice none 0 0, .slice none 0 0]), .bool (lookK (mapK Prod.fst t.l) k).isSome]) ∧ Below u.heap.size u w') := hide (fun u hu => get_V (h.tab.below hu) (mapK_rk _ h.rk) k)
  have CO : Hid (∀ x, lookK t.l k = some x → ∀ u, Below w.heap.size w u → Calls Tryz.prog 75 #[.string k, .agg (thV x.1).toArray] u fun e w' => e = .returned (.int .i64 (ew (k, x.2) : Int)) ∧ Below u.heap.size u w') := hide (fun x hx u hu => by
    have hs := h.later hu
    exact weigh_store k hk x.2 x.1 u.heap.size u ((hs.ok k x (look_mem hx)).is.isV (fun b hb => (hs.vs b hb).1)) (Nat.le_refl _))
  rw [mapK_look] at CG
  have HC : Hid (∀ u, Below w.heap.size w u → u.cell? ⟨t.s, 0, none⟩ = some (.pointer (some ⟨t.g, 0, none⟩)) ∧ u.cell? ⟨t.s, 1, none⟩ = some (.int .i64 t.wg)) := hide (fun u hu => ⟨(h.later hu).c0, (h.later hu).c1⟩)
  have he := ew_le k v hk
  have heo : ∀ x, ew (k, x) ≤ 2081 := fun x => ew_le k x hk
  clear h hv
  obtain ⟨s, g, v0, l0, W, mv, ms⟩ := t
  dsimp only at CL CG CO HC hl hw hfit hlen ⊢
  rw [hfit]
  unfold oldW
  dsimp only
  obtain ⟨n, hn⟩ : ∃ n, l0.length = n := ⟨_, rfl⟩
  obtain ⟨E, hE⟩ : ∃ E, ew (k, v) = E := ⟨_, rfl⟩
  obtain ⟨O, hO⟩ : ∃ O, lookK l0 k = O := ⟨_, rfl⟩
  rw [hO] at CG CO
  rw [hn] at CL hl
  rw [hE] at CW he
  rw [hn, hE, hO]
  clear hn hE hO hlen hfit
  obtain ⟨t0, t1, t2, t3, t4, t5, t6, t7, t8⟩ := c
  dsimp only [thV] at CW ⊢
  obtain ⟨G, hG⟩ : ∃ G, w.heap.size = G := ⟨_, rfl⟩
  obtain ⟨w0, hw0⟩ : ∃ w0, w.alloc (.cells #[.int .i64 t0, .int .i64 t1, .string t2, .slice t3 t4 t5, .slice t6 t7 t8] 32) = w0 := ⟨_, rfl⟩
  have N0 : w0.heap[G]? = some (.cells #[.int .i64 t0, .int .i64 t1, .string t2, .slice t3 t4 t5, .slice t6 t7 t8] 32 (0, 0)) := by rw [← hw0, ← hG]; exact heap_alloc_new w _
  have B0 : Below w.heap.size w w0 := by rw [← hw0]; exact (Below.refl _ _).alloc (Nat.le_refl _) _
  have HN := hide (And.intro N0 B0)
  have hw1 := hw.1
  have hw2 := hw.2
  clear N0 B0 hw
  go_enter Tryz.func44, Tryz.ntmps44
  go_upto_region 1 with fail
  have D0 : Below w.heap.size w w0.drew := (unhide HN).2.drew
  have HS0 : Hid (w0.drew.cell? ⟨s, 0, none⟩ = some (.pointer (some ⟨g, 0, none⟩)) ∧ w0.drew.cell? ⟨s, 1, none⟩ = some (.int .i64 W) ∧ w0.drew.cell? ⟨G, 0, none⟩ = some (.int .i64 t0) ∧ w0.drew.cell? ⟨G, 1, none⟩ = some (.int .i64 t1) ∧ w0.drew.cell? ⟨G, 2, none⟩ = some (.string t2) ∧ w0.drew.cell? ⟨G, 3, none⟩ = some (.slice t3 t4 t5) ∧ w0.drew.cell? ⟨G, 4, none⟩ = some (.slice t6 t7 t8)) := hide ⟨(unhide HC _ D0).1, (unhide HC _ D0).2, by rw [cell_of_row _ G 0 _ _ (0, 0) (show w0.drew.heap[G]? = _ from (unhide HN).1)]; rfl, by rw [cell_of_row _ G 1 _ _ (0, 0) (show w0.drew.heap[G]? = _ from (unhide HN).1)]; rfl, by rw [cell_of_row _ G 2 _ _ (0, 0) (show w0.drew.heap[G]? = _ from (unhide HN).1)]; rfl, by rw [cell_of_row _ G 3 _ _ (0, 0) (show w0.drew.heap[G]? = _ from (unhide HN).1)]; rfl, by rw [cell_of_row _ G 4 _ _ (0, 0) (show w0.drew.heap[G]? = _ from (unhide HN).1)]; rfl⟩
  refine till_begin (S := fun w' => w'.cell? ⟨s, 0, none⟩ = some (.pointer (some ⟨g, 0, none⟩)) ∧ w'.cell? ⟨s, 1, none⟩ = some (.int .i64 W) ∧ w'.cell? ⟨G, 0, none⟩ = some (.int .i64 t0) ∧ w'.cell? ⟨G, 1, none⟩ = some (.int .i64 t1) ∧ w'.cell? ⟨G, 2, none⟩ = some (.string t2) ∧ w'.cell? ⟨G, 3, none⟩ = some (.slice t3 t4 t5) ∧ w'.cell? ⟨G, 4, none⟩ = some (.slice t6 t7 t8)) 15 (by kernel_rfl) ?_
  refine till_take 0 (v := .pointer (some ⟨s, 0, none⟩)) (some 11) rfl rfl rfl (by kernel_rfl) (by kernel_rfl) (by kernel_rfl) (by kernel_rfl) (fun _ _ _ h => h) (Or.inl ⟨by rfl, fun u hu => by obtain ⟨b0, b1, b2, b3, b4, b5, b6⟩ := hu; go_simp⟩) (unhide HS0) ?_
  try simp only [Act.put, List.setIfInBounds_toArray, List.set_cons_zero, List.set_cons_succ]
  refine till_take 1 (v := .pointer (some ⟨s, 0, none⟩)) (some 12) rfl rfl rfl (by kernel_rfl) (by kernel_rfl) (by kernel_rfl) (by kernel_rfl) (fun _ _ _ h => h) (Or.inl ⟨by rfl, fun u hu => by obtain ⟨b0, b1, b2, b3, b4, b5, b6⟩ := hu; go_simp⟩) (unhide HS0) ?_
  try simp only [Act.put, List.setIfInBounds_toArray, List.set_cons_zero, List.set_cons_succ]
  refine till_take 2 (v := .pointer (some ⟨s, 0, none⟩)) (some 13) rfl rfl rfl (by kernel_rfl) (by kernel_rfl) (by kernel_rfl) (by kernel_rfl) (fun _ _ _ h => h) (Or.inl ⟨by rfl, fun u hu => by obtain ⟨b0, b1, b2, b3, b4, b5, b6⟩ := hu; go_simp⟩) (unhide HS0) ?_
  try simp only [Act.put, List.setIfInBounds_toArray, List.set_cons_zero, List.set_cons_succ]
  refine till_take 3 (v := .pointer (some ⟨g, 0, none⟩)) (some 14) rfl rfl rfl (by kernel_rfl) (by kernel_rfl) (by kernel_rfl) (by kernel_rfl) (fun _ _ _ h => h) (Or.inl ⟨by rfl, fun u hu => by obtain ⟨b0, b1, b2, b3, b4, b5, b6⟩ := hu; go_simp⟩) (unhide HS0) ?_
  try simp only [Act.put, List.setIfInBounds_toArray, List.set_cons_zero, List.set_cons_succ]
  refine till_take 6 (v := .pointer (some ⟨s, 0, none⟩)) (some 17) rfl rfl rfl (by kernel_rfl) (by kernel_rfl) (by kernel_rfl) (by kernel_rfl) (fun _ _ _ h => h) (Or.inl ⟨by rfl, fun u hu => by obtain ⟨b0, b1, b2, b3, b4, b5, b6⟩ := hu; go_simp⟩) (unhide HS0) ?_
  try simp only [Act.put, List.setIfInBounds_toArray, List.set_cons_zero, List.set_cons_succ]
  refine till_take 7 (v := .pointer (some ⟨s, 0, none⟩)) (some 18) rfl rfl rfl (by kernel_rfl) (by kernel_rfl) (by kernel_rfl) (by kernel_rfl) (fun _ _ _ h => h) (Or.inl ⟨by rfl, fun u hu => by obtain ⟨b0, b1, b2, b3, b4, b5, b6⟩ := hu; go_simp⟩) (unhide HS0) ?_
  try simp only [Act.put, List.setIfInBounds_toArray, List.set_cons_zero, List.set_cons_succ]
  refine till_take 8 (v := .pointer (some ⟨s, 1, none⟩)) (some 19) rfl rfl rfl (by kernel_rfl) (by kernel_rfl) (by kernel_rfl) (by kernel_rfl) (fun _ _ _ h => h) (Or.inl ⟨by rfl, fun u hu => by obtain ⟨b0, b1, b2, b3, b4, b5, b6⟩ := hu; go_simp⟩) (unhide HS0) ?_
  try simp only [Act.put, List.setIfInBounds_toArray, List.set_cons_zero, List.set_cons_succ]
  refine till_take 9 (v := .int .i64 W) (some 20) rfl rfl rfl (by kernel_rfl) (by kernel_rfl) (by kernel_rfl) (by kernel_rfl) (fun _ _ _ h => h) (Or.inl ⟨by rfl, fun u hu => by obtain ⟨b0, b1, b2, b3, b4, b5, b6⟩ := hu; go_simp⟩) (unhide HS0) ?_
  try simp only [Act.put, List.setIfInBounds_toArray, List.set_cons_zero, List.set_cons_succ]
  refine till_take 10 (v := .string k) (some 21) rfl rfl rfl (by kernel_rfl) (by kernel_rfl) (by kernel_rfl) (by kernel_rfl) (fun _ _ _ h => h) (Or.inl ⟨by rfl, fun u hu => by obtain ⟨b0, b1, b2, b3, b4, b5, b6⟩ := hu; go_simp⟩) (unhide HS0) ?_
  try simp only [Act.put, List.setIfInBounds_toArray, List.set_cons_zero, List.set_cons_succ]
  refine till_take 11 (v := .agg #[.int .i64 t0, .int .i64 t1, .string t2, .slice t3 t4 t5, .slice t6 t7 t8]) (some 22) rfl rfl rfl (by kernel_rfl) (by kernel_rfl) (by kernel_rfl) (by kernel_rfl) (fun _ _ _ h => h) (Or.inl ⟨by rfl, fun u hu => by obtain ⟨b0, b1, b2, b3, b4, b5, b6⟩ := hu; go_simp⟩) (unhide HS0) ?_
  try simp only [Act.put, List.setIfInBounds_toArray, List.set_cons_zero, List.set_cons_succ]
  refine till_one 4 (by kernel_rfl) rfl (fun K hK => ?_)
  go_simp
  refine (unhide CL _ D0).mono ?_
  rintro e u1 ⟨rfl, rfl⟩
  go_wp2_with fail
  refine hK.out _ _ (Or.inr (unhide HS0)) ?_
  clear hK K
  try simp only [Act.put, List.setIfInBounds_toArray, List.set_cons_zero, List.set_cons_succ]
  refine till_take 5 (v := .int .i64 ((n : Int) + 1)) (some 16) rfl rfl rfl (by kernel_rfl) (by kernel_rfl) (by kernel_rfl) (by kernel_rfl) (fun _ _ _ h => h) (Or.inl ⟨by rfl, fun u hu => by obtain ⟨b0, b1, b2, b3, b4, b5, b6⟩ := hu; go_simp; rw [IntKind.wrap_i64]; omega⟩) (unhide HS0) ?_
  try simp only [Act.put, List.setIfInBounds_toArray, List.set_cons_zero, List.set_cons_succ]
  refine till_one 12 (by kernel_rfl) rfl (fun K hK => ?_)
  go_simp
  refine (unhide CW _ D0).mono ?_
  rintro e u2 ⟨rfl, b2⟩
  have D2 : Below w.heap.size w u2 := D0.trans (b2.mono D0.size)
  have HS2 : Hid (u2.cell? ⟨s, 0, none⟩ = some (.pointer (some ⟨g, 0, none⟩)) ∧ u2.cell? ⟨s, 1, none⟩ = some (.int .i64 W) ∧ u2.cell? ⟨G, 0, none⟩ = some (.int .i64 t0) ∧ u2.cell? ⟨G, 1, none⟩ = some (.int .i64 t1) ∧ u2.cell? ⟨G, 2, none⟩ = some (.string t2) ∧ u2.cell? ⟨G, 3, none⟩ = some (.slice t3 t4 t5) ∧ u2.cell? ⟨G, 4, none⟩ = some (.slice t6 t7 t8)) := hide ⟨(unhide HC _ D2).1, (unhide HC _ D2).2, cell_block (b2.block G (by have := (Array.getElem?_eq_some_iff.1 (unhide HN).1).1; exact this)) (unhide HS0).2.2.1, cell_block (b2.block G (by have := (Array.getElem?_eq_some_iff.1 (unhide HN).1).1; exact this)) (unhide HS0).2.2.2.1, cell_block (b2.block G (by have := (Array.getElem?_eq_some_iff.1 (unhide HN).1).1; exact this)) (unhide HS0).2.2.2.2.1, cell_block (b2.block G (by have := (Array.getElem?_eq_some_iff.1 (unhide HN).1).1; exact this)) (unhide HS0).2.2.2.2.2.1, cell_block (b2.block G (by have := (Array.getElem?_eq_some_iff.1 (unhide HN).1).1; exact this)) (unhide HS0).2.2.2.2.2.2⟩
  have HD2 := hide D2
  clear b2 D2
  go_wp2_with fail
  refine hK.out _ _ (Or.inr (unhide HS2)) ?_
  clear hK K
  try simp only [Act.put, List.setIfInBounds_toArray, List.set_cons_zero, List.set_cons_succ]
  refine till_take 13 (v := .int .i64 (W + (E : Int))) (some 24) rfl rfl rfl (by kernel_rfl) (by kernel_rfl) (by kernel_rfl) (by kernel_rfl) (fun _ _ _ h => h) (Or.inl ⟨by rfl, fun u hu => by obtain ⟨b0, b1, b2, b3, b4, b5, b6⟩ := hu; go_simp; rw [IntKind.wrap_i64]; omega⟩) (unhide HS2) ?_
  try simp only [Act.put, List.setIfInBounds_toArray, List.set_cons_zero, List.set_cons_succ]
  refine till_one 14 (by kernel_rfl) rfl (fun K hK => ?_)
  obtain ⟨b0, b1, b2, b3, b4, b5, b6⟩ := unhide HS2
  go_simp
  refine hK.out _ _ (Or.inr (unhide HS2)) ?_
  clear hK K b0 b1 b2 b3 b4 b5 b6
  try simp only [Act.put, List.setIfInBounds_toArray, List.set_cons_zero, List.set_cons_succ]
  refine till_one 15 (by kernel_rfl) rfl (fun K hK => ?_)
  obtain ⟨b0, b1, b2, b3, b4, b5, b6⟩ := unhide HS2
  go_simp
  refine hK.out _ _ (Or.inl rfl) ?_
  clear hK K b0 b1 b2 b3 b4 b5 b6
  try simp only [Act.put, List.setIfInBounds_toArray, List.set_cons_zero, List.set_cons_succ]
  refine till_done (by kernel_rfl) ?_ _
  obtain ⟨c0, c1⟩ := unhide HC _ (unhide HD2)
  have CG2 := hide (unhide CG _ (unhide HD2))
  clear CG CL CW HS0 HS2 HN hw0 D0
  cases O with
  | none =>
    go_upto_region 6 with ((go_at_call 55; refine (unhide CG2).mono ?_; rintro e u3 ⟨rfl, b3⟩))
    have D3 : Below w.heap.size w u3 := (unhide HD2).trans (b3.mono (unhide HD2).size)
    have D4 : Below w.heap.size w (u3.alloc (.cells #[.int .i64 0, .int .i64 0, .string ⟨#[]⟩, .slice none 0 0, .slice none 0 0] 32)) := D3.alloc D3.size _
    clear b3 CG2
    have key : ((n : Int) + 1 - (if (none : Option (ThV × Vl)).isSome then 1 else 0) ≤ 128) ↔ ((n : Int) + 1 ≤ 128) := by simp
    have key2 : (W + (E : Int) - 0 ≤ 32768) ↔ (W + (E : Int) ≤ 32768) := by simp
    by_cases p1 : (n : Int) + 1 ≤ 128
    · by_cases p2 : W + (E : Int) ≤ 32768
      · go_wp2_with fail
        go_ret
        exact ⟨by first | (rw [decide_eq_true p1, decide_eq_true p2]; rfl) | (rw [decide_eq_false p2, Bool.and_false]) | simp [p1, p2], by rw [← hG]; exact D4⟩
      · go_wp2_with fail
        go_ret
        exact ⟨by first | (rw [decide_eq_true p1, decide_eq_true p2]; rfl) | (rw [decide_eq_false p2, Bool.and_false]) | simp [p1, p2], by rw [← hG]; exact D4⟩
    · go_wp2_with fail
      go_ret
      exact ⟨by first | (simp [p1]; done) | (simp; omega), by rw [← hG]; exact D4⟩
  | some x =>
    obtain ⟨⟨x0, x1, x2, x3, x4, x5, x6, x7, x8⟩, xv⟩ := x
    have hxo := heo xv
    obtain ⟨F, hF⟩ : ∃ F, ew (k, xv) = F := ⟨_, rfl⟩
    rw [hF] at hxo
    have CO2 := hide (unhide CO _ rfl)
    dsimp only [thV] at CO2
    rw [hF] at CO2
    have HF := hide hF
    clear hF CO heo
    dsimp only [thV, Option.map_some] at CG2
    go_upto_region 3 with ((go_at_call 55; refine (unhide CG2).mono ?_; rintro e u3 ⟨rfl, b3⟩))
    have D3 : Below w.heap.size w u3 := (unhide HD2).trans (b3.mono (unhide HD2).size)
    have D4 : Below w.heap.size w (u3.alloc (.cells #[.int .i64 x0, .int .i64 x1, .string x2, .slice x3 x4 x5, .slice x6 x7 x8] 32)) := D3.alloc D3.size _
    have CO3 := hide (unhide CO2 _ D4)
    have HD4 := hide D4
    clear b3 CG2 D3 D4 CO2
    go_upto_region 6 with ((go_at_call 75; refine (unhide CO3).mono ?_; rintro e u5 ⟨rfl, b5⟩))
    have D5 : Below w.heap.size w u5 := (unhide HD4).trans (b5.mono (unhide HD4).size)
    clear b5 CO3
    by_cases p1 : (n : Int) + 1 - 1 ≤ 128
    · by_cases p2 : W + (E : Int) - (F : Int) ≤ 32768
      · go_wp2_with fail
        go_ret
        have hF := unhide HF
        exact ⟨by simp only [hF]; first | (simp [p1, p2]; done) | (simp; omega), by rw [← hG]; exact D5⟩
      · go_wp2_with fail
        go_ret
        have hF := unhide HF
        exact ⟨by simp only [hF]; first | (simp [p1, p2]; done) | (simp; omega), by rw [← hG]; exact D5⟩
    · go_wp2_with fail
      go_ret
      have hF := unhide HF
      exact ⟨by simp only [hF]; first | (simp [p1]; done) | (simp; omega), by rw [← hG]; exact D5⟩

end Go.Proofs.YtdaooapfokhfcaaGreat
