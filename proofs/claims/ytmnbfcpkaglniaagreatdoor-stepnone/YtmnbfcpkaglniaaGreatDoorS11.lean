/-
  The walk of lay: a right value's bytes behind others; conditions: the lengths together are below 2^47.
-/
import Derived.Test.YtmnbfcpkaglniaaGreatDoorS10
set_option linter.unusedVariables false
set_option linter.unusedSimpArgs false
namespace Go.Proofs.YtmnbfcpkaglniaaGreatDoor
open Go.RowKit
theorem row_far {w w' : World} {v v' : Value} {b len cap : Nat} {zs : List Int} (h : Row8 w (some ⟨b, 0, none⟩) len cap zs) (hg : Grew w w' v v') (hb : b < w.heap.size) (hn : some b ≠ v.ownBlock) : Row8 w' (some ⟨b, 0, none⟩) len cap zs :=
  ⟨h.length, h.none, fun ad ha j u hj => by
    cases ha
    have e : w'.cell? ((⟨b, 0, none⟩ : Addr).add j) = w.cell? ((⟨b, 0, none⟩ : Addr).add j) := World.cell?_of_block (by rw [block_add]; exact hg.far hb hn)
    rw [e]
    exact h.cells _ rfl j u hj, h.small, h.le⟩
/-- what a writer behind no bytes leaves -/
def Wrote (u w' : World) (e : Ending) (Z : List Int) : Prop := ∃ G c : Nat, e = .returned (.slice (some ⟨G, 0, none⟩) Z.length c) ∧ Row8 w' (some ⟨G, 0, none⟩) Z.length c Z ∧ Below u.heap.size u w' ∧ u.heap.size ≤ G ∧ G < w'.heap.size
theorem putInt_w (n : Int) (w : World) (h0 : -9223372036854775808 ≤ n) (h1 : n ≤ 9223372036854775807) : Calls Tryz.prog 246 #[.slice none 0 0, .int .i64 n] w fun e w' => Wrote w w' e (encF 9 (foldI n)) := by
  refine (putInt_nil n w h0 h1).mono ?_
  rintro e w' ⟨rfl, hr, hb⟩
  exact ⟨_, _, rfl, hr, hb, Nat.le_refl _, hr.block _ rfl (by have := encF_len 9 (foldI n); omega)⟩
theorem putText_w (s : ByteArray) (w : World) (hs : s.size ≤ 140737488351232) : Calls Tryz.prog 120 #[.slice none 0 0, .string s] w fun e w' => Wrote w w' e (tx s) := by
  refine (putText_nil s w hs).mono ?_
  rintro e w' ⟨g, c, rfl, hr, hb, hg⟩
  exact ⟨g, c, rfl, hr, hb, hg, hr.block _ rfl (by have := tx_pos s; omega)⟩
set_option maxRecDepth 100000 in
set_option maxHeartbeats 800000 in
theorem lay0 (n : Int) (s : ByteArray) (l : List Vl) (ks : List ByteArray) (x : Value) (B base : Nat) (w : World) (sv : Value) (N : Nat) (xs : List Int) (hv : IsV w B (.mk 0 n s l ks) x) (hBb : B ≤ base) (hbw : base ≤ w.heap.size) (hown : w.ownsRow base 5 1 sv N (xs.map (Value.int .u8))) (hlim : N + (wenc (.mk 0 n s l ks)).length ≤ 140737489403904) :
    Calls Tryz.prog 221 #[sv, x] w fun e w' => ∃ sv', e = .returned sv' ∧ w'.ownsRow base 5 1 sv' (N + (wenc (.mk 0 n s l ks)).length) ((xs ++ wenc (.mk 0 n s l ks)).map (Value.int .u8)) ∧ Grew w w' sv sv' := by
  rw [wenc0] at hlim ⊢
  obtain ⟨k0, n0, s0, l0, ks0, al, ak, cl, ck, hv0, rfl⟩ := hv.shape
  cases hv0
  obtain ⟨m, hm⟩ : ∃ m, ks.length = m := ⟨_, rfl⟩
  obtain ⟨ln, hln⟩ : ∃ ln, l.length = ln := ⟨_, rfl⟩
  have hbn : (-9223372036854775808 ≤ n ∧ n ≤ 9223372036854775807) ∧ s.size ≤ 140737488351232 := by
    obtain ⟨_, _, _, h1, h2, V, hf, _⟩ := IsP.at hv
    exact ⟨hf.bn, hf.bs⟩
  rw [hm, hln] at hv
  rw [hm, hln]
  obtain ⟨w1, hw1⟩ : ∃ w1, w.alloc (.cells #[.int .i64 0, .int .i64 n, .string s, .slice al ln cl, .slice ak m ck] 29) = w1 := ⟨_, rfl⟩
  have BX := Box.mk' w (.int .i64 0) (.int .i64 n) (.string s) (.slice al ln cl) (.slice ak m ck)
  rw [hw1] at BX
  obtain ⟨g, hg⟩ : ∃ g, w.heap.size = g := ⟨_, rfl⟩
  have z1 := BX.size
  have z1g : w1.heap.size = g + 1 := by omega
  have hgn : ∀ q, g ≤ q → some q ≠ sv.ownBlock := fun q hq e => by have := (hown.lt q e.symm).2; omega
  have own1 : w1.ownsRow base 5 1 sv N (xs.map (Value.int .u8)) := by rw [← hw1]; exact hown.alloc _
  have R1 : w1.heap[g]? = some (.cells #[.int .i64 0, .int .i64 n, .string s, .slice al ln cl, .slice ak m ck] 29 (0, 0)) := by rw [← hg]; exact BX.row
  have HO1 := hide (And.intro own1 (And.intro BX.below (And.intro R1 (hv.mono (BX.below.mono (by omega))))))
  obtain ⟨c0, c1, c2, c3, c4⟩ := row_cell R1
  have hb1 : base ≤ w1.heap.size := by omega
  have HGN := hide hgn
  clear BX hv hown own1 z1 R1 hgn
  have tok1 : True := trivial
  have hl1 : N + 1 ≤ 140737489403904 := by simpa using hlim
  go_enter Tryz.func221, Tryz.ntmps221
  go_wp2_with (first | (at_builtin; have _t := tok1; refine wpl_app rfl (.tmp 9) (.tmp 10) rfl base N sv xs rfl ((unhide HO1).1.alloc _) (some ⟨g + 1, 0, none⟩) 1 1 [0] rfl (by rw [← z1g]; exact row_one (heap_alloc_new w1 _) (by omega) (by omega)) hl1 (by simp; omega) ?_; intro v2 w2 H2; clear tok1))
  have HE : Hid (w2.ownsRow base 5 1 v2 (N + 1) ((xs ++ [0]).map (Value.int .u8)) ∧ Grew w1 w2 sv v2) := hide ⟨(unhide H2).1, Grew.behind ((Below.refl _ _).alloc (Nat.le_refl _) _) (unhide H2).2⟩
  go_ret
  refine ⟨_, rfl, by simpa using (unhide HE).1, Grew.behind ?_ (unhide HE).2⟩
  first | exact (unhide HO1).2.1 | (rw [← hg]; exact (unhide HO1).2.1)
set_option maxRecDepth 100000 in
set_option maxHeartbeats 800000 in
theorem lay1 (n : Int) (s : ByteArray) (l : List Vl) (ks : List ByteArray) (x : Value) (B base : Nat) (w : World) (sv : Value) (N : Nat) (xs : List Int) (hn01 : n = 0 ∨ n = 1) (hv : IsV w B (.mk 1 n s l ks) x) (hBb : B ≤ base) (hbw : base ≤ w.heap.size) (hown : w.ownsRow base 5 1 sv N (xs.map (Value.int .u8))) (hlim : N + (wenc (.mk 1 n s l ks)).length ≤ 140737489403904) :
    Calls Tryz.prog 221 #[sv, x] w fun e w' => ∃ sv', e = .returned sv' ∧ w'.ownsRow base 5 1 sv' (N + (wenc (.mk 1 n s l ks)).length) ((xs ++ wenc (.mk 1 n s l ks)).map (Value.int .u8)) ∧ Grew w w' sv sv' := by
  rw [wenc1] at hlim ⊢
  obtain ⟨k0, n0, s0, l0, ks0, al, ak, cl, ck, hv0, rfl⟩ := hv.shape
  cases hv0
  obtain ⟨m, hm⟩ : ∃ m, ks.length = m := ⟨_, rfl⟩
  obtain ⟨ln, hln⟩ : ∃ ln, l.length = ln := ⟨_, rfl⟩
  have hbn : (-9223372036854775808 ≤ n ∧ n ≤ 9223372036854775807) ∧ s.size ≤ 140737488351232 := by
    obtain ⟨_, _, _, h1, h2, V, hf, _⟩ := IsP.at hv
    exact ⟨hf.bn, hf.bs⟩
  rw [hm, hln] at hv
  rw [hm, hln]
  obtain ⟨w1, hw1⟩ : ∃ w1, w.alloc (.cells #[.int .i64 1, .int .i64 n, .string s, .slice al ln cl, .slice ak m ck] 29) = w1 := ⟨_, rfl⟩
  have BX := Box.mk' w (.int .i64 1) (.int .i64 n) (.string s) (.slice al ln cl) (.slice ak m ck)
  rw [hw1] at BX
  obtain ⟨g, hg⟩ : ∃ g, w.heap.size = g := ⟨_, rfl⟩
  have z1 := BX.size
  have z1g : w1.heap.size = g + 1 := by omega
  have hgn : ∀ q, g ≤ q → some q ≠ sv.ownBlock := fun q hq e => by have := (hown.lt q e.symm).2; omega
  have own1 : w1.ownsRow base 5 1 sv N (xs.map (Value.int .u8)) := by rw [← hw1]; exact hown.alloc _
  have R1 : w1.heap[g]? = some (.cells #[.int .i64 1, .int .i64 n, .string s, .slice al ln cl, .slice ak m ck] 29 (0, 0)) := by rw [← hg]; exact BX.row
  have HO1 := hide (And.intro own1 (And.intro BX.below (And.intro R1 (hv.mono (BX.below.mono (by omega))))))
  obtain ⟨c0, c1, c2, c3, c4⟩ := row_cell R1
  have hb1 : base ≤ w1.heap.size := by omega
  have HGN := hide hgn
  clear BX hv hown own1 z1 R1 hgn
  have tok1 : True := trivial
  have hl1 : N + 1 ≤ 140737489403904 := by simpa using hlim
  obtain ⟨y, hy⟩ : ∃ y : Int, 1 + n = y := ⟨_, rfl⟩
  have hyb : 0 ≤ y ∧ y ≤ 255 := by omega
  have u1 : IntKind.u8.wrap n = n := by rw [IntKind.wrap_u8]; omega
  have u2 : IntKind.u8.wrap y = y := by rw [IntKind.wrap_u8]; omega
  have HN := hide (And.intro hn01 hyb)
  rw [hy]
  clear hn01 hyb
  go_enter Tryz.func221, Tryz.ntmps221
  go_wp2_with (first | (at_builtin; have _t := tok1; refine wpl_app rfl (.tmp 14) (.tmp 19) rfl base N sv xs rfl ((unhide HO1).1.alloc _) (some ⟨g + 1, 0, none⟩) 1 1 [y] rfl (by rw [← z1g]; exact row_one (heap_alloc_new w1 _) (unhide HN).2.1 (unhide HN).2.2) hl1 (by simp; omega) ?_; intro v2 w2 H2; clear tok1))
  have HE : Hid (w2.ownsRow base 5 1 v2 (N + 1) ((xs ++ [y]).map (Value.int .u8)) ∧ Grew w1 w2 sv v2) := hide ⟨(unhide H2).1, Grew.behind ((Below.refl _ _).alloc (Nat.le_refl _) _) (unhide H2).2⟩
  go_ret
  refine ⟨_, rfl, by simpa using (unhide HE).1, Grew.behind ?_ (unhide HE).2⟩
  first | exact (unhide HO1).2.1 | (rw [← hg]; exact (unhide HO1).2.1)
set_option maxRecDepth 100000 in
set_option maxHeartbeats 800000 in
theorem lay2 (n : Int) (s : ByteArray) (l : List Vl) (ks : List ByteArray) (x : Value) (B base : Nat) (w : World) (sv : Value) (N : Nat) (xs : List Int) (hv : IsV w B (.mk 2 n s l ks) x) (hBb : B ≤ base) (hbw : base ≤ w.heap.size) (hown : w.ownsRow base 5 1 sv N (xs.map (Value.int .u8))) (hlim : N + (wenc (.mk 2 n s l ks)).length ≤ 140737489403904) :
    Calls Tryz.prog 221 #[sv, x] w fun e w' => ∃ sv', e = .returned sv' ∧ w'.ownsRow base 5 1 sv' (N + (wenc (.mk 2 n s l ks)).length) ((xs ++ wenc (.mk 2 n s l ks)).map (Value.int .u8)) ∧ Grew w w' sv sv' := by
  rw [wenc2] at hlim ⊢
  obtain ⟨k0, n0, s0, l0, ks0, al, ak, cl, ck, hv0, rfl⟩ := hv.shape
  cases hv0
  obtain ⟨m, hm⟩ : ∃ m, ks.length = m := ⟨_, rfl⟩
  obtain ⟨ln, hln⟩ : ∃ ln, l.length = ln := ⟨_, rfl⟩
  have hbn : (-9223372036854775808 ≤ n ∧ n ≤ 9223372036854775807) ∧ s.size ≤ 140737488351232 := by
    obtain ⟨_, _, _, h1, h2, V, hf, _⟩ := IsP.at hv
    exact ⟨hf.bn, hf.bs⟩
  rw [hm, hln] at hv
  rw [hm, hln]
  obtain ⟨w1, hw1⟩ : ∃ w1, w.alloc (.cells #[.int .i64 2, .int .i64 n, .string s, .slice al ln cl, .slice ak m ck] 29) = w1 := ⟨_, rfl⟩
  have BX := Box.mk' w (.int .i64 2) (.int .i64 n) (.string s) (.slice al ln cl) (.slice ak m ck)
  rw [hw1] at BX
  obtain ⟨g, hg⟩ : ∃ g, w.heap.size = g := ⟨_, rfl⟩
  have z1 := BX.size
  have z1g : w1.heap.size = g + 1 := by omega
  have hgn : ∀ q, g ≤ q → some q ≠ sv.ownBlock := fun q hq e => by have := (hown.lt q e.symm).2; omega
  have own1 : w1.ownsRow base 5 1 sv N (xs.map (Value.int .u8)) := by rw [← hw1]; exact hown.alloc _
  have R1 : w1.heap[g]? = some (.cells #[.int .i64 2, .int .i64 n, .string s, .slice al ln cl, .slice ak m ck] 29 (0, 0)) := by rw [← hg]; exact BX.row
  have HO1 := hide (And.intro own1 (And.intro BX.below (And.intro R1 (hv.mono (BX.below.mono (by omega))))))
  obtain ⟨c0, c1, c2, c3, c4⟩ := row_cell R1
  have hb1 : base ≤ w1.heap.size := by omega
  have HGN := hide hgn
  clear BX hv hown own1 z1 R1 hgn
  obtain ⟨Z, hZ⟩ : ∃ Z, encF 9 (foldI n) = Z := ⟨_, rfl⟩
  have CC := fun u => hide (putInt_w n u hbn.1.1 hbn.1.2)
  rw [hZ] at CC
  rw [hZ] at hlim
  rw [hZ]
  have hl1 : N + 1 ≤ 140737489403904 := by rw [List.length_cons] at hlim; omega
  have hl2 : N + 1 + Z.length ≤ 140737489403904 := by rw [List.length_cons] at hlim; omega
  clear hlim hZ
  go_enter Tryz.func221, Tryz.ntmps221
  go_upto_region 7 with fail
  refine till_begin (S := fun w' => w'.cell? ⟨g, 1, none⟩ = some (.int .i64 n)) 7 (by kernel_rfl) ?_
  obtain ⟨wd, hwd⟩ : ∃ wd, w1.drew = wd := ⟨_, rfl⟩
  have HD : Hid (Below w1.heap.size w1 wd) := hide (by rw [← hwd]; exact (Below.refl _ _).drew)
  have zd : wd.heap.size = g + 1 := by rw [← hwd]; exact z1g
  have HS1 := cell_later (unhide HD) c1
  rw [hwd]
  clear hwd c0 c1 c2 c3 c4
  refine till_take 0 (v := sv) (some 23) rfl rfl rfl (by kernel_rfl) (by kernel_rfl) (by kernel_rfl) (by kernel_rfl) (fun _ _ _ h => h) (Or.inl ⟨by rfl, fun u hu => by go_simp⟩) HS1 ?_
  try simp only [Act.put, List.setIfInBounds_toArray, List.set_cons_zero, List.set_cons_succ]
  refine till_take 3 (v := .pointer (some ⟨g, 1, none⟩)) (some 26) rfl rfl rfl (by kernel_rfl) (by kernel_rfl) (by kernel_rfl) (by kernel_rfl) (fun _ _ _ h => h) (Or.inl ⟨by rfl, fun u hu => by go_simp⟩) HS1 ?_
  try simp only [Act.put, List.setIfInBounds_toArray, List.set_cons_zero, List.set_cons_succ]
  refine till_take 4 (v := .int .i64 n) (some 27) rfl rfl rfl (by kernel_rfl) (by kernel_rfl) (by kernel_rfl) (by kernel_rfl) (fun _ _ _ h => h) (Or.inl ⟨by rfl, fun u hu => by go_simp⟩) HS1 ?_
  try simp only [Act.put, List.setIfInBounds_toArray, List.set_cons_zero, List.set_cons_succ]
  refine till_one 1 (by kernel_rfl) rfl (fun K hK => ?_)
  go_simp
  obtain ⟨wb, hwb⟩ : ∃ wb, wd.alloc (.cells #[.int .u8 3] 5) = wb := ⟨_, rfl⟩
  have zb : wb.heap.size = g + 1 + 1 := by rw [← hwb, ← zd]; simp
  have Hb : Hid (Below wd.heap.size wd wb ∧ wb.heap[g + 1]? = some (.cells #[.int .u8 3] 5 (0, 0))) := hide (by rw [← hwb, ← zd]; exact ⟨(Below.refl _ _).alloc (Nat.le_refl _) _, heap_alloc_new _ _⟩)
  rw [hwb]
  clear hwb
  have HSb := cell_later (unhide Hb).1 HS1
  refine hK.out _ _ (Or.inr HSb) ?_
  clear hK K
  try simp only [Act.put, List.setIfInBounds_toArray, List.set_cons_zero, List.set_cons_succ]
  refine till_one 2 (by kernel_rfl) rfl (fun K hK => ?_)
  refine step_app (by rfl) _ _ (by rfl) base N sv xs (by rfl) (own_below (own_below (unhide HO1).1 (unhide HD)) (unhide Hb).1) (some ⟨g + 1, 0, none⟩) 1 1 [3] (by rfl) (row_one (unhide Hb).2 (by omega) (by omega)) hl1 (by omega) ?_
  intro v2 wa H2
  change K (Act.put _ (some 25) _) wa
  have za := (unhide H2).2.grown.size
  have HSa : wa.cell? ⟨g, 1, none⟩ = some (.int .i64 n) := (World.cell?_of_block ((unhide H2).2.far (b := g) (by omega) (unhide HGN g (Nat.le_refl _)))).trans HSb
  refine hK.out _ _ (Or.inr HSa) ?_
  clear hK K
  try simp only [Act.put, List.setIfInBounds_toArray, List.set_cons_zero, List.set_cons_succ]
  refine till_one 5 (by kernel_rfl) rfl (fun K hK => ?_)
  go_simp
  refine (unhide (CC wa)).mono ?_
  rintro e wc ⟨G, cc, rfl, r5, b5, hG1, hG2⟩
  have zc := b5.size
  have H5 := hide (And.intro r5 b5)
  have HSc := cell_later b5 HSa
  clear r5 b5
  go_wp2_with fail
  refine hK.out _ _ (Or.inr HSc) ?_
  clear hK K
  try simp only [Act.put, List.setIfInBounds_toArray, List.set_cons_zero, List.set_cons_succ]
  refine till_one 6 (by kernel_rfl) rfl (fun K hK => ?_)
  refine step_app (by rfl) _ _ (by rfl) base (N + 1) v2 (xs ++ [3]) (by rfl) (own_below (unhide H2).1 (unhide H5).2) (some ⟨G, 0, none⟩) Z.length cc Z (by rfl) ((unhide H5).1) hl2 (by omega) ?_
  intro v6 we H6
  change K (Act.put _ (some 29) _) we
  have hv2 : ∀ q, v2.ownBlock = some q → q ≠ g := fun q e hq => by
    subst hq
    rcases (unhide H2).2.row _ e with h | h
    · exact unhide HGN _ (Nat.le_refl _) h.symm
    · omega
  have HSe : we.cell? ⟨g, 1, none⟩ = some (.int .i64 n) := (World.cell?_of_block ((unhide H6).2.far (b := g) (by omega) (fun e => hv2 g e.symm rfl))).trans HSc
  refine hK.out _ _ (Or.inr HSe) ?_
  clear hK K hv2
  try simp only [Act.put, List.setIfInBounds_toArray, List.set_cons_zero, List.set_cons_succ]
  refine till_one 7 (by kernel_rfl) rfl (fun K hK => ?_)
  go_simp
  refine hK.out _ _ (Or.inl rfl) ?_
  clear hK K
  try simp only [Act.put, List.setIfInBounds_toArray, List.set_cons_zero, List.set_cons_succ]
  refine till_done (by kernel_rfl) ?_ _
  have HE : Hid (we.ownsRow base 5 1 v6 (N + 1 + Z.length) ((xs ++ [3] ++ Z).map (Value.int .u8)) ∧ Grew w1 we sv v6) := hide ⟨(unhide H6).1, Grew.behind (unhide HD) (Grew.behind (unhide Hb).1 ((unhide H2).2.trans (Grew.behind (unhide H5).2 (unhide H6).2)))⟩
  go_wp2_with fail
  go_ret
  refine ⟨_, rfl, ?_, Grew.behind ?_ (unhide HE).2⟩
  · have e1 : N + (Z.length + 1) = N + 1 + Z.length := by omega
    first
      | (rw [e1]; simpa [List.append_assoc] using (unhide HE).1)
      | (simpa [List.append_assoc, Nat.add_assoc, Nat.add_comm 1] using (unhide HE).1)
  · first | exact (unhide HO1).2.1 | (rw [← hg]; exact (unhide HO1).2.1)
set_option maxRecDepth 100000 in
set_option maxHeartbeats 800000 in
theorem lay3 (n : Int) (s : ByteArray) (l : List Vl) (ks : List ByteArray) (x : Value) (B base : Nat) (w : World) (sv : Value) (N : Nat) (xs : List Int) (hv : IsV w B (.mk 3 n s l ks) x) (hBb : B ≤ base) (hbw : base ≤ w.heap.size) (hown : w.ownsRow base 5 1 sv N (xs.map (Value.int .u8))) (hlim : N + (wenc (.mk 3 n s l ks)).length ≤ 140737489403904) :
    Calls Tryz.prog 221 #[sv, x] w fun e w' => ∃ sv', e = .returned sv' ∧ w'.ownsRow base 5 1 sv' (N + (wenc (.mk 3 n s l ks)).length) ((xs ++ wenc (.mk 3 n s l ks)).map (Value.int .u8)) ∧ Grew w w' sv sv' := by
  rw [wenc3] at hlim ⊢
  obtain ⟨k0, n0, s0, l0, ks0, al, ak, cl, ck, hv0, rfl⟩ := hv.shape
  cases hv0
  obtain ⟨m, hm⟩ : ∃ m, ks.length = m := ⟨_, rfl⟩
  obtain ⟨ln, hln⟩ : ∃ ln, l.length = ln := ⟨_, rfl⟩
  have hbn : (-9223372036854775808 ≤ n ∧ n ≤ 9223372036854775807) ∧ s.size ≤ 140737488351232 := by
    obtain ⟨_, _, _, h1, h2, V, hf, _⟩ := IsP.at hv
    exact ⟨hf.bn, hf.bs⟩
  rw [hm, hln] at hv
  rw [hm, hln]
  obtain ⟨w1, hw1⟩ : ∃ w1, w.alloc (.cells #[.int .i64 3, .int .i64 n, .string s, .slice al ln cl, .slice ak m ck] 29) = w1 := ⟨_, rfl⟩
  have BX := Box.mk' w (.int .i64 3) (.int .i64 n) (.string s) (.slice al ln cl) (.slice ak m ck)
  rw [hw1] at BX
  obtain ⟨g, hg⟩ : ∃ g, w.heap.size = g := ⟨_, rfl⟩
  have z1 := BX.size
  have z1g : w1.heap.size = g + 1 := by omega
  have hgn : ∀ q, g ≤ q → some q ≠ sv.ownBlock := fun q hq e => by have := (hown.lt q e.symm).2; omega
  have own1 : w1.ownsRow base 5 1 sv N (xs.map (Value.int .u8)) := by rw [← hw1]; exact hown.alloc _
  have R1 : w1.heap[g]? = some (.cells #[.int .i64 3, .int .i64 n, .string s, .slice al ln cl, .slice ak m ck] 29 (0, 0)) := by rw [← hg]; exact BX.row
  have HO1 := hide (And.intro own1 (And.intro BX.below (And.intro R1 (hv.mono (BX.below.mono (by omega))))))
  obtain ⟨c0, c1, c2, c3, c4⟩ := row_cell R1
  have hb1 : base ≤ w1.heap.size := by omega
  have HGN := hide hgn
  clear BX hv hown own1 z1 R1 hgn
  obtain ⟨Z, hZ⟩ : ∃ Z, tx s = Z := ⟨_, rfl⟩
  have CC := fun u => hide (putText_w s u hbn.2)
  rw [hZ] at CC
  rw [hZ] at hlim
  rw [hZ]
  have hl1 : N + 1 ≤ 140737489403904 := by rw [List.length_cons] at hlim; omega
  have hl2 : N + 1 + Z.length ≤ 140737489403904 := by rw [List.length_cons] at hlim; omega
  clear hlim hZ
  go_enter Tryz.func221, Tryz.ntmps221
  go_upto_region 9 with fail
  refine till_begin (S := fun w' => w'.cell? ⟨g, 2, none⟩ = some (.string s)) 7 (by kernel_rfl) ?_
  obtain ⟨wd, hwd⟩ : ∃ wd, w1.drew = wd := ⟨_, rfl⟩
  have HD : Hid (Below w1.heap.size w1 wd) := hide (by rw [← hwd]; exact (Below.refl _ _).drew)
  have zd : wd.heap.size = g + 1 := by rw [← hwd]; exact z1g
  have HS1 := cell_later (unhide HD) c2
  rw [hwd]
  clear hwd c0 c1 c2 c3 c4
  refine till_take 0 (v := sv) (some 32) rfl rfl rfl (by kernel_rfl) (by kernel_rfl) (by kernel_rfl) (by kernel_rfl) (fun _ _ _ h => h) (Or.inl ⟨by rfl, fun u hu => by go_simp⟩) HS1 ?_
  try simp only [Act.put, List.setIfInBounds_toArray, List.set_cons_zero, List.set_cons_succ]
  refine till_take 3 (v := .pointer (some ⟨g, 2, none⟩)) (some 35) rfl rfl rfl (by kernel_rfl) (by kernel_rfl) (by kernel_rfl) (by kernel_rfl) (fun _ _ _ h => h) (Or.inl ⟨by rfl, fun u hu => by go_simp⟩) HS1 ?_
  try simp only [Act.put, List.setIfInBounds_toArray, List.set_cons_zero, List.set_cons_succ]
  refine till_take 4 (v := .string s) (some 36) rfl rfl rfl (by kernel_rfl) (by kernel_rfl) (by kernel_rfl) (by kernel_rfl) (fun _ _ _ h => h) (Or.inl ⟨by rfl, fun u hu => by go_simp⟩) HS1 ?_
  try simp only [Act.put, List.setIfInBounds_toArray, List.set_cons_zero, List.set_cons_succ]
  refine till_one 1 (by kernel_rfl) rfl (fun K hK => ?_)
  go_simp
  obtain ⟨wb, hwb⟩ : ∃ wb, wd.alloc (.cells #[.int .u8 4] 5) = wb := ⟨_, rfl⟩
  have zb : wb.heap.size = g + 1 + 1 := by rw [← hwb, ← zd]; simp
  have Hb : Hid (Below wd.heap.size wd wb ∧ wb.heap[g + 1]? = some (.cells #[.int .u8 4] 5 (0, 0))) := hide (by rw [← hwb, ← zd]; exact ⟨(Below.refl _ _).alloc (Nat.le_refl _) _, heap_alloc_new _ _⟩)
  rw [hwb]
  clear hwb
  have HSb := cell_later (unhide Hb).1 HS1
  refine hK.out _ _ (Or.inr HSb) ?_
  clear hK K
  try simp only [Act.put, List.setIfInBounds_toArray, List.set_cons_zero, List.set_cons_succ]
  refine till_one 2 (by kernel_rfl) rfl (fun K hK => ?_)
  refine step_app (by rfl) _ _ (by rfl) base N sv xs (by rfl) (own_below (own_below (unhide HO1).1 (unhide HD)) (unhide Hb).1) (some ⟨g + 1, 0, none⟩) 1 1 [4] (by rfl) (row_one (unhide Hb).2 (by omega) (by omega)) hl1 (by omega) ?_
  intro v2 wa H2
  change K (Act.put _ (some 34) _) wa
  have za := (unhide H2).2.grown.size
  have HSa : wa.cell? ⟨g, 2, none⟩ = some (.string s) := (World.cell?_of_block ((unhide H2).2.far (b := g) (by omega) (unhide HGN g (Nat.le_refl _)))).trans HSb
  refine hK.out _ _ (Or.inr HSa) ?_
  clear hK K
  try simp only [Act.put, List.setIfInBounds_toArray, List.set_cons_zero, List.set_cons_succ]
  refine till_one 5 (by kernel_rfl) rfl (fun K hK => ?_)
  go_simp
  refine (unhide (CC wa)).mono ?_
  rintro e wc ⟨G, cc, rfl, r5, b5, hG1, hG2⟩
  have zc := b5.size
  have H5 := hide (And.intro r5 b5)
  have HSc := cell_later b5 HSa
  clear r5 b5
  go_wp2_with fail
  refine hK.out _ _ (Or.inr HSc) ?_
  clear hK K
  try simp only [Act.put, List.setIfInBounds_toArray, List.set_cons_zero, List.set_cons_succ]
  refine till_one 6 (by kernel_rfl) rfl (fun K hK => ?_)
  refine step_app (by rfl) _ _ (by rfl) base (N + 1) v2 (xs ++ [4]) (by rfl) (own_below (unhide H2).1 (unhide H5).2) (some ⟨G, 0, none⟩) Z.length cc Z (by rfl) ((unhide H5).1) hl2 (by omega) ?_
  intro v6 we H6
  change K (Act.put _ (some 38) _) we
  have hv2 : ∀ q, v2.ownBlock = some q → q ≠ g := fun q e hq => by
    subst hq
    rcases (unhide H2).2.row _ e with h | h
    · exact unhide HGN _ (Nat.le_refl _) h.symm
    · omega
  have HSe : we.cell? ⟨g, 2, none⟩ = some (.string s) := (World.cell?_of_block ((unhide H6).2.far (b := g) (by omega) (fun e => hv2 g e.symm rfl))).trans HSc
  refine hK.out _ _ (Or.inr HSe) ?_
  clear hK K hv2
  try simp only [Act.put, List.setIfInBounds_toArray, List.set_cons_zero, List.set_cons_succ]
  refine till_one 7 (by kernel_rfl) rfl (fun K hK => ?_)
  go_simp
  refine hK.out _ _ (Or.inl rfl) ?_
  clear hK K
  try simp only [Act.put, List.setIfInBounds_toArray, List.set_cons_zero, List.set_cons_succ]
  refine till_done (by kernel_rfl) ?_ _
  have HE : Hid (we.ownsRow base 5 1 v6 (N + 1 + Z.length) ((xs ++ [4] ++ Z).map (Value.int .u8)) ∧ Grew w1 we sv v6) := hide ⟨(unhide H6).1, Grew.behind (unhide HD) (Grew.behind (unhide Hb).1 ((unhide H2).2.trans (Grew.behind (unhide H5).2 (unhide H6).2)))⟩
  go_wp2_with fail
  go_ret
  refine ⟨_, rfl, ?_, Grew.behind ?_ (unhide HE).2⟩
  · have e1 : N + (Z.length + 1) = N + 1 + Z.length := by omega
    first
      | (rw [e1]; simpa [List.append_assoc] using (unhide HE).1)
      | (simpa [List.append_assoc, Nat.add_assoc, Nat.add_comm 1] using (unhide HE).1)
  · first | exact (unhide HO1).2.1 | (rw [← hg]; exact (unhide HO1).2.1)
end Go.Proofs.YtmnbfcpkaglniaaGreatDoor
