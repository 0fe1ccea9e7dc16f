/-
  The walks of Right; no conditions but the form's own reach.
  The walk of lay at lists, and of lay whole, Put, Encode, Length; conditions: the lengths together are below 2^47.
-/
import Derived.Test.YtmnbfcpkaglniaaGreatDoorS09
import Derived.Test.YtmnbfcpkaglniaaGreatDoorS11
set_option linter.unusedVariables false
set_option linter.unusedSimpArgs false
namespace Go.Proofs.YtmnbfcpkaglniaaGreatDoor
open Go.RowKit
set_option maxRecDepth 100000 in
set_option maxHeartbeats 400000 in
theorem right_code (v : Vl) (x : Value) (B : Nat) (w : World) (hv : IsV w B v x) (hBs : B ≤ w.heap.size) :
    Calls Tryz.prog 44 #[x] w fun e w' => e = .returned (.bool (rightB v)) ∧ Below w.heap.size w w' := by
  obtain ⟨k', n', s', l', ks', al', ak', cl', ck', hy', hx⟩ := hv.shape
  obtain ⟨ll, hll⟩ : ∃ ll, l'.length = ll := ⟨_, rfl⟩
  obtain ⟨m, hm⟩ : ∃ m, ks'.length = m := ⟨_, rfl⟩
  rw [hll, hm] at hx
  subst hx
  obtain ⟨w1, hw1⟩ : ∃ w1, w.alloc (.cells #[.int .i64 k', .int .i64 n', .string s', .slice al' ll cl', .slice ak' m ck'] 29) = w1 := ⟨_, rfl⟩
  have BX := Box.mk' w (.int .i64 k') (.int .i64 n') (.string s') (.slice al' ll cl') (.slice ak' m ck')
  rw [hw1] at BX
  obtain ⟨c0, c1, c2, c3, c4⟩ := row_cell BX.row
  have z1 := BX.size
  have HB := hide BX.below
  have CM := hide (measure_any v _ B w1 (hv.mono (BX.below.mono hBs)) (by omega))
  have HRB : Hid (decide (0 < wt0 v) = rightB v) := hide (by
    unfold wt0
    cases h : rightB v with
    | false => simp
    | true => have := wt_pos v; simp [this])
  clear BX hv hy'
  go_enter Tryz.func44, Tryz.ntmps44
  go_wp2_with fail
  refine (unhide CM).mono ?_
  rintro e w2 ⟨rfl, b2⟩
  have B2 := hide b2
  clear b2 CM
  go_wp2_with fail
  go_ret
  exact ⟨by rw [← unhide HRB]; rfl, (unhide HB).trans ((unhide B2).mono (by omega))⟩
set_option maxRecDepth 100000 in
set_option maxHeartbeats 800000 in
theorem lay4 (b : Nat) (ih : ElemsAt b) (n : Int) (s : ByteArray) (l : List Vl) (ks : List ByteArray) (x : Value) (B base : Nat) (w : World) (sv : Value) (N : Nat) (xs : List Int) (hok : okL b l = true) (hk5 : (4 : Int) = 5 → ks.length = l.length) (hv : IsV w B (.mk 4 n s l ks) x) (hBb : B ≤ base) (hbw : base ≤ w.heap.size) (hown : w.ownsRow base 5 1 sv N (xs.map (Value.int .u8))) (hlim : N + (wenc (.mk 4 n s l ks)).length ≤ 140737489403904) :
    Calls Tryz.prog 221 #[sv, x] w fun e w' => ∃ sv', e = .returned sv' ∧ w'.ownsRow base 5 1 sv' (N + (wenc (.mk 4 n s l ks)).length) ((xs ++ wenc (.mk 4 n s l ks)).map (Value.int .u8)) ∧ Grew w w' sv sv' := by
  rw [wenc4] at hlim ⊢
  obtain ⟨k0, n0, s0, l0, ks0, al, ak, cl, ck, hv0, rfl⟩ := hv.shape
  cases hv0
  obtain ⟨m, hm⟩ : ∃ m, ks.length = m := ⟨_, rfl⟩
  obtain ⟨ln, hln⟩ : ∃ ln, l.length = ln := ⟨_, rfl⟩
  have hbn : (-9223372036854775808 ≤ n ∧ n ≤ 9223372036854775807) ∧ s.size ≤ 140737488351232 := by
    obtain ⟨_, _, _, h1, h2, V, hf, _⟩ := IsP.at hv
    exact ⟨hf.bn, hf.bs⟩
  rw [hm, hln] at hv
  rw [hm, hln]
  obtain ⟨w1, hw1⟩ : ∃ w1, w.alloc (.cells #[.int .i64 4, .int .i64 n, .string s, .slice al ln cl, .slice ak m ck] 29) = w1 := ⟨_, rfl⟩
  have BX := Box.mk' w (.int .i64 4) (.int .i64 n) (.string s) (.slice al ln cl) (.slice ak m ck)
  rw [hw1] at BX
  obtain ⟨g, hg⟩ : ∃ g, w.heap.size = g := ⟨_, rfl⟩
  have z1 := BX.size
  have z1g : w1.heap.size = g + 1 := by omega
  have hgn : ∀ q, g ≤ q → some q ≠ sv.ownBlock := fun q hq e => by have := (hown.lt q e.symm).2; omega
  have own1 : w1.ownsRow base 5 1 sv N (xs.map (Value.int .u8)) := by rw [← hw1]; exact hown.alloc _
  have R1 : w1.heap[g]? = some (.cells #[.int .i64 4, .int .i64 n, .string s, .slice al ln cl, .slice ak m ck] 29 (0, 0)) := by rw [← hg]; exact BX.row
  have HO1 := hide (And.intro own1 (And.intro BX.below (And.intro R1 (hv.mono (BX.below.mono (by omega))))))
  obtain ⟨c0, c1, c2, c3, c4⟩ := row_cell R1
  have hb1 : base ≤ w1.heap.size := by omega
  have HGN := hide hgn
  clear BX hv hown own1 z1 R1 hgn
  obtain ⟨Z, hZ⟩ : ∃ Z, encF 9 (ln : Int) ++ wencL false l ks = Z := ⟨_, rfl⟩
  rw [hln, hZ] at hlim
  try rw [hln]
  rw [hZ]
  have hl1 : N + 1 ≤ 140737489403904 := by rw [List.length_cons] at hlim; omega
  have hl2 : N + 1 + Z.length ≤ 140737489403904 := by rw [List.length_cons] at hlim; omega
  have HZ := hide (And.intro hZ (And.intro hln (And.intro hok (And.intro hm hk5))))
  clear hlim hZ hok hk5 hm hln
  go_enter Tryz.func221, Tryz.ntmps221
  go_upto_region 11 with fail
  refine till_begin (S := fun w' => w'.cell? ⟨g, 0, none⟩ = some (.int .i64 4) ∧ w'.cell? ⟨g, 1, none⟩ = some (.int .i64 n) ∧ w'.cell? ⟨g, 2, none⟩ = some (.string s) ∧ w'.cell? ⟨g, 3, none⟩ = some (.slice al ln cl) ∧ w'.cell? ⟨g, 4, none⟩ = some (.slice ak m ck)) 5 (by kernel_rfl) ?_
  obtain ⟨wd, hwd⟩ : ∃ wd, w1.drew = wd := ⟨_, rfl⟩
  have HD : Hid (Below w1.heap.size w1 wd) := hide (by rw [← hwd]; exact (Below.refl _ _).drew)
  have zd : wd.heap.size = g + 1 := by rw [← hwd]; exact z1g
  have HS1 := And.intro (cell_later (unhide HD) c0) (And.intro (cell_later (unhide HD) c1) (And.intro (cell_later (unhide HD) c2) (And.intro (cell_later (unhide HD) c3) (cell_later (unhide HD) c4))))
  rw [hwd]
  clear hwd c0 c1 c2 c3 c4
  refine till_take 0 (v := sv) (some 41) rfl rfl rfl (by kernel_rfl) (by kernel_rfl) (by kernel_rfl) (by kernel_rfl) (fun _ _ _ h => h) (Or.inl ⟨by rfl, fun u hu => by obtain ⟨t0, t1, t2, t3, t4⟩ := hu; go_simp⟩) HS1 ?_
  try simp only [Act.put, List.setIfInBounds_toArray, List.set_cons_zero, List.set_cons_succ]
  refine till_take 3 (v := .agg #[.int .i64 4, .int .i64 n, .string s, .slice al ln cl, .slice ak m ck]) (some 44) rfl rfl rfl (by kernel_rfl) (by kernel_rfl) (by kernel_rfl) (by kernel_rfl) (fun _ _ _ h => h) (Or.inl ⟨by rfl, fun u hu => by obtain ⟨t0, t1, t2, t3, t4⟩ := hu; go_simp⟩) HS1 ?_
  try simp only [Act.put, List.setIfInBounds_toArray, List.set_cons_zero, List.set_cons_succ]
  refine till_one 1 (by kernel_rfl) rfl (fun K hK => ?_)
  go_simp
  obtain ⟨wb, hwb⟩ : ∃ wb, wd.alloc (.cells #[.int .u8 5] 5) = wb := ⟨_, rfl⟩
  have zb : wb.heap.size = g + 1 + 1 := by rw [← hwb, ← zd]; simp
  have Hb : Hid (Below wd.heap.size wd wb ∧ wb.heap[g + 1]? = some (.cells #[.int .u8 5] 5 (0, 0))) := hide (by rw [← hwb, ← zd]; exact ⟨(Below.refl _ _).alloc (Nat.le_refl _) _, heap_alloc_new _ _⟩)
  rw [hwb]
  clear hwb
  have HSb := And.intro (cell_later (unhide Hb).1 HS1.1) (And.intro (cell_later (unhide Hb).1 HS1.2.1) (And.intro (cell_later (unhide Hb).1 HS1.2.2.1) (And.intro (cell_later (unhide Hb).1 HS1.2.2.2.1) (cell_later (unhide Hb).1 HS1.2.2.2.2))))
  refine hK.out _ _ (Or.inr HSb) ?_
  clear hK K
  try simp only [Act.put, List.setIfInBounds_toArray, List.set_cons_zero, List.set_cons_succ]
  refine till_one 2 (by kernel_rfl) rfl (fun K hK => ?_)
  refine step_app (by rfl) _ _ (by rfl) base N sv xs (by rfl) (own_below (own_below (unhide HO1).1 (unhide HD)) (unhide Hb).1) (some ⟨g + 1, 0, none⟩) 1 1 [5] (by rfl) (row_one (unhide Hb).2 (by omega) (by omega)) hl1 (by omega) ?_
  intro v2 wa H2
  change K (Act.put _ (some 43) _) wa
  have za := (unhide H2).2.grown.size
  have kp : ∀ q x, wb.cell? ⟨g, q, none⟩ = some x → wa.cell? ⟨g, q, none⟩ = some x := fun q x hx => (World.cell?_of_block ((unhide H2).2.far (b := g) (by omega) (unhide HGN g (Nat.le_refl _)))).trans hx
  have HSa := And.intro (kp _ _ HSb.1) (And.intro (kp _ _ HSb.2.1) (And.intro (kp _ _ HSb.2.2.1) (And.intro (kp _ _ HSb.2.2.2.1) (kp _ _ HSb.2.2.2.2))))
  have ownb := own_below (own_below (unhide HO1).1 (unhide HD)) (unhide Hb).1
  have hva : IsV wa B (.mk 4 n s l ks) (.agg #[.int .i64 4, .int .i64 n, .string s, .slice al ln cl, .slice ak m ck]) := (((unhide HO1).2.2.2.mono ((unhide HD).mono (by omega))).mono ((unhide Hb).1.mono (by omega))).mono (((unhide H2).2.below ownb (by omega)).mono hBb)
  have CC := hide (ih 4 n s l ks _ B base wa v2 (N + 1) (xs ++ [5]) (unhide HZ).2.2.1 (unhide HZ).2.2.2.2 hva hBb (by omega) (unhide H2).1 (by
    have hz := (unhide HZ).1
    rw [← (unhide HZ).2.1] at hz
    rw [show decide ((4 : Int) = 5) = false from by decide]
    rw [hz]
    exact hl2))
  have hz0 : encF 9 (l.length : Int) ++ wencL (decide ((4 : Int) = 5)) l ks = Z := by
    have hz := (unhide HZ).1
    rw [← (unhide HZ).2.1] at hz
    rw [show decide ((4 : Int) = 5) = false from by decide]
    exact hz
  rw [hz0] at CC
  refine hK.out _ _ (Or.inr HSa) ?_
  clear hK K kp ownb hva hz0
  try simp only [Act.put, List.setIfInBounds_toArray, List.set_cons_zero, List.set_cons_succ]
  refine till_one 4 (by kernel_rfl) rfl (fun K hK => ?_)
  go_simp
  refine (unhide CC).mono ?_
  rintro e we ⟨v6, rfl, own6, gr6⟩
  have hv2 : some g ≠ v2.ownBlock := fun e => by
    rcases (unhide H2).2.row _ e.symm with h | h
    · exact unhide HGN _ (Nat.le_refl _) h.symm
    · omega
  have kp : ∀ q x, wa.cell? ⟨g, q, none⟩ = some x → we.cell? ⟨g, q, none⟩ = some x := fun q x hx => (World.cell?_of_block (gr6.far (b := g) (by omega) hv2)).trans hx
  have HSe := And.intro (kp _ _ HSa.1) (And.intro (kp _ _ HSa.2.1) (And.intro (kp _ _ HSa.2.2.1) (And.intro (kp _ _ HSa.2.2.2.1) (kp _ _ HSa.2.2.2.2))))
  have HE : Hid (we.ownsRow base 5 1 v6 (N + 1 + Z.length) ((xs ++ [5] ++ Z).map (Value.int .u8)) ∧ Grew w1 we sv v6) := hide ⟨own6, Grew.behind (unhide HD) (Grew.behind (unhide Hb).1 ((unhide H2).2.trans gr6))⟩
  clear own6 gr6 kp hv2 CC
  go_wp2_with fail
  refine hK.out _ _ (Or.inr HSe) ?_
  clear hK K
  try simp only [Act.put, List.setIfInBounds_toArray, List.set_cons_zero, List.set_cons_succ]
  refine till_one 5 (by kernel_rfl) rfl (fun K hK => ?_)
  go_simp
  refine hK.out _ _ (Or.inl rfl) ?_
  clear hK K
  try simp only [Act.put, List.setIfInBounds_toArray, List.set_cons_zero, List.set_cons_succ]
  refine till_done (by kernel_rfl) ?_ _
  go_wp2_with fail
  go_ret
  refine ⟨_, rfl, ?_, Grew.behind ?_ (unhide HE).2⟩
  · have e1 : N + (Z.length + 1) = N + 1 + Z.length := by omega
    first
      | (rw [e1]; simpa [List.append_assoc] using (unhide HE).1)
      | (simpa [List.append_assoc, Nat.add_assoc, Nat.add_comm 1] using (unhide HE).1)
  · first | exact (unhide HO1).2.1 | (rw [← hg]; exact (unhide HO1).2.1)
set_option maxRecDepth 100000 in
set_option maxHeartbeats 800000 in
theorem lay5 (b : Nat) (ih : ElemsAt b) (n : Int) (s : ByteArray) (l : List Vl) (ks : List ByteArray) (x : Value) (B base : Nat) (w : World) (sv : Value) (N : Nat) (xs : List Int) (hok : okL b l = true) (hk5 : (5 : Int) = 5 → ks.length = l.length) (hv : IsV w B (.mk 5 n s l ks) x) (hBb : B ≤ base) (hbw : base ≤ w.heap.size) (hown : w.ownsRow base 5 1 sv N (xs.map (Value.int .u8))) (hlim : N + (wenc (.mk 5 n s l ks)).length ≤ 140737489403904) :
    Calls Tryz.prog 221 #[sv, x] w fun e w' => ∃ sv', e = .returned sv' ∧ w'.ownsRow base 5 1 sv' (N + (wenc (.mk 5 n s l ks)).length) ((xs ++ wenc (.mk 5 n s l ks)).map (Value.int .u8)) ∧ Grew w w' sv sv' := by
  rw [wenc5] at hlim ⊢
  obtain ⟨k0, n0, s0, l0, ks0, al, ak, cl, ck, hv0, rfl⟩ := hv.shape
  cases hv0
  obtain ⟨m, hm⟩ : ∃ m, ks.length = m := ⟨_, rfl⟩
  obtain ⟨ln, hln⟩ : ∃ ln, l.length = ln := ⟨_, rfl⟩
  have hbn : (-9223372036854775808 ≤ n ∧ n ≤ 9223372036854775807) ∧ s.size ≤ 140737488351232 := by
    obtain ⟨_, _, _, h1, h2, V, hf, _⟩ := IsP.at hv
    exact ⟨hf.bn, hf.bs⟩
  rw [hm, hln] at hv
  rw [hm, hln]
  obtain ⟨w1, hw1⟩ : ∃ w1, w.alloc (.cells #[.int .i64 5, .int .i64 n, .string s, .slice al ln cl, .slice ak m ck] 29) = w1 := ⟨_, rfl⟩
  have BX := Box.mk' w (.int .i64 5) (.int .i64 n) (.string s) (.slice al ln cl) (.slice ak m ck)
  rw [hw1] at BX
  obtain ⟨g, hg⟩ : ∃ g, w.heap.size = g := ⟨_, rfl⟩
  have z1 := BX.size
  have z1g : w1.heap.size = g + 1 := by omega
  have hgn : ∀ q, g ≤ q → some q ≠ sv.ownBlock := fun q hq e => by have := (hown.lt q e.symm).2; omega
  have own1 : w1.ownsRow base 5 1 sv N (xs.map (Value.int .u8)) := by rw [← hw1]; exact hown.alloc _
  have R1 : w1.heap[g]? = some (.cells #[.int .i64 5, .int .i64 n, .string s, .slice al ln cl, .slice ak m ck] 29 (0, 0)) := by rw [← hg]; exact BX.row
  have HO1 := hide (And.intro own1 (And.intro BX.below (And.intro R1 (hv.mono (BX.below.mono (by omega))))))
  obtain ⟨c0, c1, c2, c3, c4⟩ := row_cell R1
  have hb1 : base ≤ w1.heap.size := by omega
  have HGN := hide hgn
  clear BX hv hown own1 z1 R1 hgn
  obtain ⟨Z, hZ⟩ : ∃ Z, encF 9 (ln : Int) ++ wencL true l ks = Z := ⟨_, rfl⟩
  rw [hln, hZ] at hlim
  try rw [hln]
  rw [hZ]
  have hl1 : N + 1 ≤ 140737489403904 := by rw [List.length_cons] at hlim; omega
  have hl2 : N + 1 + Z.length ≤ 140737489403904 := by rw [List.length_cons] at hlim; omega
  have HZ := hide (And.intro hZ (And.intro hln (And.intro hok (And.intro hm hk5))))
  clear hlim hZ hok hk5 hm hln
  go_enter Tryz.func221, Tryz.ntmps221
  go_upto_region 13 with fail
  refine till_begin (S := fun w' => w'.cell? ⟨g, 0, none⟩ = some (.int .i64 5) ∧ w'.cell? ⟨g, 1, none⟩ = some (.int .i64 n) ∧ w'.cell? ⟨g, 2, none⟩ = some (.string s) ∧ w'.cell? ⟨g, 3, none⟩ = some (.slice al ln cl) ∧ w'.cell? ⟨g, 4, none⟩ = some (.slice ak m ck)) 5 (by kernel_rfl) ?_
  obtain ⟨wd, hwd⟩ : ∃ wd, w1.drew = wd := ⟨_, rfl⟩
  have HD : Hid (Below w1.heap.size w1 wd) := hide (by rw [← hwd]; exact (Below.refl _ _).drew)
  have zd : wd.heap.size = g + 1 := by rw [← hwd]; exact z1g
  have HS1 := And.intro (cell_later (unhide HD) c0) (And.intro (cell_later (unhide HD) c1) (And.intro (cell_later (unhide HD) c2) (And.intro (cell_later (unhide HD) c3) (cell_later (unhide HD) c4))))
  rw [hwd]
  clear hwd c0 c1 c2 c3 c4
  refine till_take 0 (v := sv) (some 48) rfl rfl rfl (by kernel_rfl) (by kernel_rfl) (by kernel_rfl) (by kernel_rfl) (fun _ _ _ h => h) (Or.inl ⟨by rfl, fun u hu => by obtain ⟨t0, t1, t2, t3, t4⟩ := hu; go_simp⟩) HS1 ?_
  try simp only [Act.put, List.setIfInBounds_toArray, List.set_cons_zero, List.set_cons_succ]
  refine till_take 3 (v := .agg #[.int .i64 5, .int .i64 n, .string s, .slice al ln cl, .slice ak m ck]) (some 51) rfl rfl rfl (by kernel_rfl) (by kernel_rfl) (by kernel_rfl) (by kernel_rfl) (fun _ _ _ h => h) (Or.inl ⟨by rfl, fun u hu => by obtain ⟨t0, t1, t2, t3, t4⟩ := hu; go_simp⟩) HS1 ?_
  try simp only [Act.put, List.setIfInBounds_toArray, List.set_cons_zero, List.set_cons_succ]
  refine till_one 1 (by kernel_rfl) rfl (fun K hK => ?_)
  go_simp
  obtain ⟨wb, hwb⟩ : ∃ wb, wd.alloc (.cells #[.int .u8 6] 5) = wb := ⟨_, rfl⟩
  have zb : wb.heap.size = g + 1 + 1 := by rw [← hwb, ← zd]; simp
  have Hb : Hid (Below wd.heap.size wd wb ∧ wb.heap[g + 1]? = some (.cells #[.int .u8 6] 5 (0, 0))) := hide (by rw [← hwb, ← zd]; exact ⟨(Below.refl _ _).alloc (Nat.le_refl _) _, heap_alloc_new _ _⟩)
  rw [hwb]
  clear hwb
  have HSb := And.intro (cell_later (unhide Hb).1 HS1.1) (And.intro (cell_later (unhide Hb).1 HS1.2.1) (And.intro (cell_later (unhide Hb).1 HS1.2.2.1) (And.intro (cell_later (unhide Hb).1 HS1.2.2.2.1) (cell_later (unhide Hb).1 HS1.2.2.2.2))))
  refine hK.out _ _ (Or.inr HSb) ?_
  clear hK K
  try simp only [Act.put, List.setIfInBounds_toArray, List.set_cons_zero, List.set_cons_succ]
  refine till_one 2 (by kernel_rfl) rfl (fun K hK => ?_)
  refine step_app (by rfl) _ _ (by rfl) base N sv xs (by rfl) (own_below (own_below (unhide HO1).1 (unhide HD)) (unhide Hb).1) (some ⟨g + 1, 0, none⟩) 1 1 [6] (by rfl) (row_one (unhide Hb).2 (by omega) (by omega)) hl1 (by omega) ?_
  intro v2 wa H2
  change K (Act.put _ (some 50) _) wa
  have za := (unhide H2).2.grown.size
  have kp : ∀ q x, wb.cell? ⟨g, q, none⟩ = some x → wa.cell? ⟨g, q, none⟩ = some x := fun q x hx => (World.cell?_of_block ((unhide H2).2.far (b := g) (by omega) (unhide HGN g (Nat.le_refl _)))).trans hx
  have HSa := And.intro (kp _ _ HSb.1) (And.intro (kp _ _ HSb.2.1) (And.intro (kp _ _ HSb.2.2.1) (And.intro (kp _ _ HSb.2.2.2.1) (kp _ _ HSb.2.2.2.2))))
  have ownb := own_below (own_below (unhide HO1).1 (unhide HD)) (unhide Hb).1
  have hva : IsV wa B (.mk 5 n s l ks) (.agg #[.int .i64 5, .int .i64 n, .string s, .slice al ln cl, .slice ak m ck]) := (((unhide HO1).2.2.2.mono ((unhide HD).mono (by omega))).mono ((unhide Hb).1.mono (by omega))).mono (((unhide H2).2.below ownb (by omega)).mono hBb)
  have CC := hide (ih 5 n s l ks _ B base wa v2 (N + 1) (xs ++ [6]) (unhide HZ).2.2.1 (unhide HZ).2.2.2.2 hva hBb (by omega) (unhide H2).1 (by
    have hz := (unhide HZ).1
    rw [← (unhide HZ).2.1] at hz
    rw [show decide ((5 : Int) = 5) = true from by decide]
    rw [hz]
    exact hl2))
  have hz0 : encF 9 (l.length : Int) ++ wencL (decide ((5 : Int) = 5)) l ks = Z := by
    have hz := (unhide HZ).1
    rw [← (unhide HZ).2.1] at hz
    rw [show decide ((5 : Int) = 5) = true from by decide]
    exact hz
  rw [hz0] at CC
  refine hK.out _ _ (Or.inr HSa) ?_
  clear hK K kp ownb hva hz0
  try simp only [Act.put, List.setIfInBounds_toArray, List.set_cons_zero, List.set_cons_succ]
  refine till_one 4 (by kernel_rfl) rfl (fun K hK => ?_)
  go_simp
  refine (unhide CC).mono ?_
  rintro e we ⟨v6, rfl, own6, gr6⟩
  have hv2 : some g ≠ v2.ownBlock := fun e => by
    rcases (unhide H2).2.row _ e.symm with h | h
    · exact unhide HGN _ (Nat.le_refl _) h.symm
    · omega
  have kp : ∀ q x, wa.cell? ⟨g, q, none⟩ = some x → we.cell? ⟨g, q, none⟩ = some x := fun q x hx => (World.cell?_of_block (gr6.far (b := g) (by omega) hv2)).trans hx
  have HSe := And.intro (kp _ _ HSa.1) (And.intro (kp _ _ HSa.2.1) (And.intro (kp _ _ HSa.2.2.1) (And.intro (kp _ _ HSa.2.2.2.1) (kp _ _ HSa.2.2.2.2))))
  have HE : Hid (we.ownsRow base 5 1 v6 (N + 1 + Z.length) ((xs ++ [6] ++ Z).map (Value.int .u8)) ∧ Grew w1 we sv v6) := hide ⟨own6, Grew.behind (unhide HD) (Grew.behind (unhide Hb).1 ((unhide H2).2.trans gr6))⟩
  clear own6 gr6 kp hv2 CC
  go_wp2_with fail
  refine hK.out _ _ (Or.inr HSe) ?_
  clear hK K
  try simp only [Act.put, List.setIfInBounds_toArray, List.set_cons_zero, List.set_cons_succ]
  refine till_one 5 (by kernel_rfl) rfl (fun K hK => ?_)
  go_simp
  refine hK.out _ _ (Or.inl rfl) ?_
  clear hK K
  try simp only [Act.put, List.setIfInBounds_toArray, List.set_cons_zero, List.set_cons_succ]
  refine till_done (by kernel_rfl) ?_ _
  go_wp2_with fail
  go_ret
  refine ⟨_, rfl, ?_, Grew.behind ?_ (unhide HE).2⟩
  · have e1 : N + (Z.length + 1) = N + 1 + Z.length := by omega
    first
      | (rw [e1]; simpa [List.append_assoc] using (unhide HE).1)
      | (simpa [List.append_assoc, Nat.add_assoc, Nat.add_comm 1] using (unhide HE).1)
  · first | exact (unhide HO1).2.1 | (rw [← hg]; exact (unhide HO1).2.1)
theorem lay_step (b : Nat) (ih : ElemsAt b) : LayAt (b + 1) := by
  intro v x B base w sv n xs hok hv hBb hbw hown hlim
  cases v with
  | mk k m s l ks =>
    simp only [okB, Bool.and_eq_true] at hok
    rcases form_zero hok.1 with ⟨rfl, _⟩ | ⟨rfl, h01, _⟩ | ⟨rfl, _⟩ | ⟨rfl, _⟩ | ⟨rfl, _⟩ | ⟨rfl, _, _, hk, _⟩
    · exact lay0 m s l ks x B base w sv n xs hv hBb hbw hown hlim
    · exact lay1 m s l ks x B base w sv n xs h01 hv hBb hbw hown hlim
    · exact lay2 m s l ks x B base w sv n xs hv hBb hbw hown hlim
    · exact lay3 m s l ks x B base w sv n xs hv hBb hbw hown hlim
    · exact lay4 b ih m s l ks x B base w sv n xs hok.2 (fun e => absurd e (by decide)) hv hBb hbw hown hlim
    · exact lay5 b ih m s l ks x B base w sv n xs hok.2 (fun _ => hk) hv hBb hbw hown hlim
theorem lay_zero : LayAt 0 := by
  intro v x B base w sv n xs hok
  cases v
  simp [okB] at hok
theorem lay_any : ∀ b, LayAt b
  | 0 => lay_zero
  | b + 1 => lay_step b (elems_of b (lay_any b))
end Go.Proofs.YtmnbfcpkaglniaaGreatDoor
