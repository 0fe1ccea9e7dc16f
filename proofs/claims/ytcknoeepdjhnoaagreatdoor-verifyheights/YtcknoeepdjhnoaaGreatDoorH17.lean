/-
  The walks of the document's own put, Put and Encode: a right value's bytes behind others; conditions: the lengths together are below 2^47.
-/
import Derived.Test.YtcknoeepdjhnoaaGreatDoorH16
import Derived.Test.YtcknoeepdjhnoaaGreatDoorH10
set_option linter.unusedVariables false
set_option linter.unusedSimpArgs false
namespace Go.Proofs.YtcknoeepdjhnoaaGreatDoor
open Go.RowKit
set_option linter.unusedVariables false
set_option linter.unusedSimpArgs false

theorem Grew.of_new {w w' : World} {v v' : Value} {g : Nat} (hb : Below w.heap.size w w') (hv : v'.ownBlock = some g) (hg : w.heap.size ≤ g) : Grew w w' v v' :=
  ⟨⟨hb.os, hb.tape, hb.output, hb.size, fun k hk _ => hb.block k hk⟩, fun b e => by rw [hv] at e; cases e; exact Or.inr hg⟩

/-- what a writer of the document leaves -/
def Laid (base : Nat) (sv : Value) (N : Nat) (xs Z : List Int) (w : World) (e : Ending) (w' : World) : Prop :=
  ∃ sv', e = .returned sv' ∧ w'.ownsRow base 5 1 sv' (N + Z.length) ((xs ++ Z).map (Value.int .u8)) ∧ Grew w w' sv sv'

theorem refUint_own (n : Int) (base : Nat) (sv : Value) (N : Nat) (xs : List Int) (w : World) (hown : w.ownsRow base 5 1 sv N (xs.map (Value.int .u8))) (hN : 0 < N) (hsm : ∀ c ∈ xs, 0 ≤ c ∧ c ≤ 255) (hlim : N + 10 ≤ 140737489403904) (h0 : 0 ≤ n) (h1 : n ≤ 18446744073709551615) (hb : base ≤ w.heap.size) :
    Calls Tryz.prog 72 #[sv, .int .u64 n] w fun e w' => Laid base sv N xs (encF 9 n) w e w' := by
  obtain ⟨g, cap, rfl, hg, r, _⟩ := row_of hown hsm hN
  refine (refPutUint_any (some ⟨g, 0, none⟩) N cap n xs w r hlim h0 h1).mono ?_
  rintro e w' ⟨g', c, hg', rfl, own', b'⟩
  exact ⟨_, rfl, own_low own' hb, Grew.of_new b' rfl hg'⟩

theorem refInt_own (n : Int) (base : Nat) (sv : Value) (N : Nat) (xs : List Int) (w : World) (hown : w.ownsRow base 5 1 sv N (xs.map (Value.int .u8))) (hN : 0 < N) (hsm : ∀ c ∈ xs, 0 ≤ c ∧ c ≤ 255) (hlim : N + 10 ≤ 140737489403904) (h0 : -9223372036854775808 ≤ n) (h1 : n ≤ 9223372036854775807) (hb : base ≤ w.heap.size) :
    Calls Tryz.prog 108 #[sv, .int .i64 n] w fun e w' => Laid base sv N xs (encF 9 (foldI n)) w e w' := by
  obtain ⟨g, cap, rfl, hg, r, _⟩ := row_of hown hsm hN
  refine (refPutInt_any (some ⟨g, 0, none⟩) N cap n xs w r hlim h0 h1).mono ?_
  rintro e w' ⟨g', c, hg', rfl, own', b'⟩
  exact ⟨_, rfl, own_low own' hb, Grew.of_new b' rfl hg'⟩

theorem refText_own (s : ByteArray) (base : Nat) (sv : Value) (N : Nat) (xs : List Int) (w : World) (hown : w.ownsRow base 5 1 sv N (xs.map (Value.int .u8))) (hN : 0 < N) (hsm : ∀ c ∈ xs, 0 ≤ c ∧ c ≤ 255) (hlim : N + 10 + s.size ≤ 140737489403904) (hb : base ≤ w.heap.size) :
    Calls Tryz.prog 74 #[sv, .string s] w fun e w' => Laid base sv N xs (tx s) w e w' := by
  obtain ⟨g, cap, rfl, hg, r, _⟩ := row_of hown hsm hN
  refine (refPutText_any (some ⟨g, 0, none⟩) N cap s xs w r hlim).mono ?_
  rintro e w' ⟨g', c, hg', rfl, own', b'⟩
  have e1 : N + (encF 9 (s.size : Int)).length + s.size = N + (tx s).length := by unfold tx; rw [List.length_append, nums_len]; omega
  have e2 : xs ++ encF 9 (s.size : Int) ++ nums s = xs ++ tx s := by unfold tx; rw [List.append_assoc]
  rw [e1, e2] at own'
  rw [e1]
  exact ⟨_, rfl, own_low own' hb, Grew.of_new b' rfl hg'⟩

def PutF (b : Nat) : Prop := ∀ (v : Vl) (x : Value) (B base : Nat) (w : World) (sv : Value) (n : Nat) (xs : List Int), okB b v = true → IsV w B v x → B ≤ base → base ≤ w.heap.size → w.ownsRow base 5 1 sv n (xs.map (Value.int .u8)) → (∀ c ∈ xs, 0 ≤ c ∧ c ≤ 255) → n + (wenc v).length + 10 ≤ 140737489403904 →
    Calls Tryz.prog 97 #[sv, x] w fun e w' => Laid base sv n xs (wenc v) w e w'

theorem small_snoc {xs : List Int} {c : Int} (h : ∀ n ∈ xs, 0 ≤ n ∧ n ≤ 255) (h0 : 0 ≤ c) (h1 : c ≤ 255) : ∀ n ∈ xs ++ [c], 0 ≤ n ∧ n ≤ 255 := by
  intro n hn
  rcases List.mem_append.1 hn with hn | hn
  · exact h n hn
  · rw [List.mem_singleton.1 hn]; exact ⟨h0, h1⟩

set_option maxRecDepth 100000 in
set_option maxHeartbeats 1000000 in
theorem put0 (n : Int) (s : ByteArray) (l : List Vl) (ks : List ByteArray) (x : Value) (B base : Nat) (w : World) (sv : Value) (N : Nat) (xs : List Int) (hv : IsV w B (.mk 0 n s l ks) x) (hBb : B ≤ base) (hbw : base ≤ w.heap.size) (hown : w.ownsRow base 5 1 sv N (xs.map (Value.int .u8))) (hsm : ∀ c ∈ xs, 0 ≤ c ∧ c ≤ 255) (hlim : N + (wenc (.mk 0 n s l ks)).length + 10 ≤ 140737489403904) :
    Calls Tryz.prog 97 #[sv, x] w fun e w' => Laid base sv N xs (wenc (.mk 0 n s l ks)) w e w' := by
  rw [wenc0] at hlim ⊢
  obtain ⟨k0, n0, s0, l0, ks0, al, ak, cl, ck, hv0, rfl⟩ := hv.shape
  cases hv0
  obtain ⟨m, hm⟩ : ∃ m, ks.length = m := ⟨_, rfl⟩
  obtain ⟨ln, hln⟩ : ∃ ln, l.length = ln := ⟨_, rfl⟩
  have hbn : (-9223372036854775808 ≤ n ∧ n ≤ 9223372036854775807) ∧ s.size ≤ 140737488351232 := by
    obtain ⟨_, _, _, h1, h2, V, hf, _⟩ := IsP.at hv
    exact ⟨hf.bn, hf.bs⟩
  rw [hm, hln] at hv
  rw [hm, hln]
  obtain ⟨w1, hw1⟩ : ∃ w1, w.alloc (.cells #[.int .i64 0, .int .i64 n, .string s, .slice al ln cl, .slice ak m ck] 42) = w1 := ⟨_, rfl⟩
  have BX := Box.mk' w (.int .i64 0) (.int .i64 n) (.string s) (.slice al ln cl) (.slice ak m ck)
  rw [hw1] at BX
  obtain ⟨g, hg⟩ : ∃ g, w.heap.size = g := ⟨_, rfl⟩
  have z1 := BX.size
  have z1g : w1.heap.size = g + 1 := by omega
  have hgn : ∀ q, g ≤ q → some q ≠ sv.ownBlock := fun q hq e => by have := (hown.lt q e.symm).2; omega
  have own1 : w1.ownsRow base 5 1 sv N (xs.map (Value.int .u8)) := by rw [← hw1]; exact hown.alloc _
  have R1 : w1.heap[g]? = some (.cells #[.int .i64 0, .int .i64 n, .string s, .slice al ln cl, .slice ak m ck] 42 (0, 0)) := by rw [← hg]; exact BX.row
  have HO1 := hide (And.intro own1 (And.intro BX.below (And.intro R1 (hv.mono (BX.below.mono (by omega))))))
  obtain ⟨c0, c1, c2, c3, c4⟩ := row_cell R1
  have hb1 : base ≤ w1.heap.size := by omega
  have HGN := hide hgn
  have HSX := hide hsm
  clear BX hv hown own1 z1 R1 hgn hsm
  have tok1 : True := trivial
  have hl1 : N + 1 ≤ 140737489403904 := by simp at hlim; omega
  go_enter Tryz.func97, Tryz.ntmps97
  go_wp2_with (first | (at_builtin; have _t := tok1; refine wpl_app rfl (.tmp 10) (.tmp 11) rfl base N sv xs rfl ((unhide HO1).1.alloc _) (some ⟨g + 1, 0, none⟩) 1 1 [0] rfl (by rw [← z1g]; exact row_one (heap_alloc_new w1 _) (by omega) (by omega)) hl1 (by simp; omega) ?_; intro v2 w2 H2; clear tok1))
  have HE : Hid (w2.ownsRow base 5 1 v2 (N + 1) ((xs ++ [0]).map (Value.int .u8)) ∧ Grew w1 w2 sv v2) := hide ⟨(unhide H2).1, Grew.behind ((Below.refl _ _).alloc (Nat.le_refl _) _) (unhide H2).2⟩
  go_ret
  refine ⟨_, rfl, by simpa using (unhide HE).1, Grew.behind ?_ (unhide HE).2⟩
  first | exact (unhide HO1).2.1 | (rw [← hg]; exact (unhide HO1).2.1)

set_option maxRecDepth 100000 in
set_option maxHeartbeats 1000000 in
theorem put1 (n : Int) (s : ByteArray) (l : List Vl) (ks : List ByteArray) (x : Value) (B base : Nat) (w : World) (sv : Value) (N : Nat) (xs : List Int) (hn01 : n = 0 ∨ n = 1) (hv : IsV w B (.mk 1 n s l ks) x) (hBb : B ≤ base) (hbw : base ≤ w.heap.size) (hown : w.ownsRow base 5 1 sv N (xs.map (Value.int .u8))) (hsm : ∀ c ∈ xs, 0 ≤ c ∧ c ≤ 255) (hlim : N + (wenc (.mk 1 n s l ks)).length + 10 ≤ 140737489403904) :
    Calls Tryz.prog 97 #[sv, x] w fun e w' => Laid base sv N xs (wenc (.mk 1 n s l ks)) w e w' := by
  rw [wenc1] at hlim ⊢
  obtain ⟨k0, n0, s0, l0, ks0, al, ak, cl, ck, hv0, rfl⟩ := hv.shape
  cases hv0
  obtain ⟨m, hm⟩ : ∃ m, ks.length = m := ⟨_, rfl⟩
  obtain ⟨ln, hln⟩ : ∃ ln, l.length = ln := ⟨_, rfl⟩
  have hbn : (-9223372036854775808 ≤ n ∧ n ≤ 9223372036854775807) ∧ s.size ≤ 140737488351232 := by
    obtain ⟨_, _, _, h1, h2, V, hf, _⟩ := IsP.at hv
    exact ⟨hf.bn, hf.bs⟩
  rw [hm, hln] at hv
  rw [hm, hln]
  obtain ⟨w1, hw1⟩ : ∃ w1, w.alloc (.cells #[.int .i64 1, .int .i64 n, .string s, .slice al ln cl, .slice ak m ck] 42) = w1 := ⟨_, rfl⟩
  have BX := Box.mk' w (.int .i64 1) (.int .i64 n) (.string s) (.slice al ln cl) (.slice ak m ck)
  rw [hw1] at BX
  obtain ⟨g, hg⟩ : ∃ g, w.heap.size = g := ⟨_, rfl⟩
  have z1 := BX.size
  have z1g : w1.heap.size = g + 1 := by omega
  have hgn : ∀ q, g ≤ q → some q ≠ sv.ownBlock := fun q hq e => by have := (hown.lt q e.symm).2; omega
  have own1 : w1.ownsRow base 5 1 sv N (xs.map (Value.int .u8)) := by rw [← hw1]; exact hown.alloc _
  have R1 : w1.heap[g]? = some (.cells #[.int .i64 1, .int .i64 n, .string s, .slice al ln cl, .slice ak m ck] 42 (0, 0)) := by rw [← hg]; exact BX.row
  have HO1 := hide (And.intro own1 (And.intro BX.below (And.intro R1 (hv.mono (BX.below.mono (by omega))))))
  obtain ⟨c0, c1, c2, c3, c4⟩ := row_cell R1
  have hb1 : base ≤ w1.heap.size := by omega
  have HGN := hide hgn
  have HSX := hide hsm
  clear BX hv hown own1 z1 R1 hgn hsm
  have tok1 : True := trivial
  have hl1 : N + 1 ≤ 140737489403904 := by simp at hlim; omega
  obtain ⟨y, hy⟩ : ∃ y : Int, 1 + n = y := ⟨_, rfl⟩
  have hyb : 0 ≤ y ∧ y ≤ 255 := by omega
  have u1 : IntKind.i64.wrap (1 + n) = y := by rw [IntKind.wrap_i64]; omega
  have u2 : IntKind.u8.wrap y = y := by rw [IntKind.wrap_u8]; omega
  have HN := hide (And.intro hn01 hyb)
  rw [hy]
  clear hn01 hyb hy
  go_enter Tryz.func97, Tryz.ntmps97
  go_wp2_with (first | (at_builtin; have _t := tok1; refine wpl_app rfl (.tmp 15) (.tmp 20) rfl base N sv xs rfl ((unhide HO1).1.alloc _) (some ⟨g + 1, 0, none⟩) 1 1 [y] rfl (by rw [← z1g]; exact row_one (heap_alloc_new w1 _) (unhide HN).2.1 (unhide HN).2.2) hl1 (by simp; omega) ?_; intro v2 w2 H2; clear tok1))
  have HE : Hid (w2.ownsRow base 5 1 v2 (N + 1) ((xs ++ [y]).map (Value.int .u8)) ∧ Grew w1 w2 sv v2) := hide ⟨(unhide H2).1, Grew.behind ((Below.refl _ _).alloc (Nat.le_refl _) _) (unhide H2).2⟩
  go_ret
  refine ⟨_, rfl, by simpa using (unhide HE).1, Grew.behind ?_ (unhide HE).2⟩
  first | exact (unhide HO1).2.1 | (rw [← hg]; exact (unhide HO1).2.1)

set_option maxRecDepth 100000 in
set_option maxHeartbeats 1000000 in
theorem put2 (n : Int) (s : ByteArray) (l : List Vl) (ks : List ByteArray) (x : Value) (B base : Nat) (w : World) (sv : Value) (N : Nat) (xs : List Int) (hv : IsV w B (.mk 2 n s l ks) x) (hBb : B ≤ base) (hbw : base ≤ w.heap.size) (hown : w.ownsRow base 5 1 sv N (xs.map (Value.int .u8))) (hsm : ∀ c ∈ xs, 0 ≤ c ∧ c ≤ 255) (hlim : N + (wenc (.mk 2 n s l ks)).length + 10 ≤ 140737489403904) :
    Calls Tryz.prog 97 #[sv, x] w fun e w' => Laid base sv N xs (wenc (.mk 2 n s l ks)) w e w' := by
  rw [wenc2] at hlim ⊢
  obtain ⟨k0, n0, s0, l0, ks0, al, ak, cl, ck, hv0, rfl⟩ := hv.shape
  cases hv0
  obtain ⟨m, hm⟩ : ∃ m, ks.length = m := ⟨_, rfl⟩
  obtain ⟨ln, hln⟩ : ∃ ln, l.length = ln := ⟨_, rfl⟩
  have hbn : (-9223372036854775808 ≤ n ∧ n ≤ 9223372036854775807) ∧ s.size ≤ 140737488351232 := by
    obtain ⟨_, _, _, h1, h2, V, hf, _⟩ := IsP.at hv
    exact ⟨hf.bn, hf.bs⟩
  rw [hm, hln] at hv
  rw [hm, hln]
  obtain ⟨w1, hw1⟩ : ∃ w1, w.alloc (.cells #[.int .i64 2, .int .i64 n, .string s, .slice al ln cl, .slice ak m ck] 42) = w1 := ⟨_, rfl⟩
  have BX := Box.mk' w (.int .i64 2) (.int .i64 n) (.string s) (.slice al ln cl) (.slice ak m ck)
  rw [hw1] at BX
  obtain ⟨g, hg⟩ : ∃ g, w.heap.size = g := ⟨_, rfl⟩
  have z1 := BX.size
  have z1g : w1.heap.size = g + 1 := by omega
  have hgn : ∀ q, g ≤ q → some q ≠ sv.ownBlock := fun q hq e => by have := (hown.lt q e.symm).2; omega
  have own1 : w1.ownsRow base 5 1 sv N (xs.map (Value.int .u8)) := by rw [← hw1]; exact hown.alloc _
  have R1 : w1.heap[g]? = some (.cells #[.int .i64 2, .int .i64 n, .string s, .slice al ln cl, .slice ak m ck] 42 (0, 0)) := by rw [← hg]; exact BX.row
  have HO1 := hide (And.intro own1 (And.intro BX.below (And.intro R1 (hv.mono (BX.below.mono (by omega))))))
  obtain ⟨c0, c1, c2, c3, c4⟩ := row_cell R1
  have hb1 : base ≤ w1.heap.size := by omega
  have HGN := hide hgn
  have HSX := hide hsm
  clear BX hv hown own1 z1 R1 hgn hsm
  obtain ⟨Z, hZ⟩ : ∃ Z, encF 9 (foldI n) = Z := ⟨_, rfl⟩
  rw [hZ] at hlim
  rw [hZ]
  have hl1 : N + 1 ≤ 140737489403904 := by rw [List.length_cons] at hlim; omega
  have hl2 : N + 1 + 10 ≤ 140737489403904 := by rw [List.length_cons] at hlim; omega
  go_enter Tryz.func97, Tryz.ntmps97
  go_upto_region 7 with fail
  refine till_begin (S := fun w' => w'.cell? ⟨g, 1, none⟩ = some (.int .i64 n)) 6 (by kernel_rfl) ?_
  obtain ⟨wd, hwd⟩ : ∃ wd, w1.drew = wd := ⟨_, rfl⟩
  have HD : Hid (Below w1.heap.size w1 wd) := hide (by rw [← hwd]; exact (Below.refl _ _).drew)
  have zd : wd.heap.size = g + 1 := by rw [← hwd]; exact z1g
  have HS1 := cell_later (unhide HD) c1
  rw [hwd]
  clear hwd c0 c1 c2 c3 c4
  refine till_take 0 (v := sv) (some 24) rfl rfl rfl (by kernel_rfl) (by kernel_rfl) (by kernel_rfl) (by kernel_rfl) (fun _ _ _ h => h) (Or.inl ⟨by rfl, fun u hu => by go_simp⟩) HS1 ?_
  try simp only [Act.put, List.setIfInBounds_toArray, List.set_cons_zero, List.set_cons_succ]
  refine till_take 3 (v := .pointer (some ⟨g, 1, none⟩)) (some 27) rfl rfl rfl (by kernel_rfl) (by kernel_rfl) (by kernel_rfl) (by kernel_rfl) (fun _ _ _ h => h) (Or.inl ⟨by rfl, fun u hu => by go_simp⟩) HS1 ?_
  try simp only [Act.put, List.setIfInBounds_toArray, List.set_cons_zero, List.set_cons_succ]
  refine till_take 4 (v := .int .i64 n) (some 28) rfl rfl rfl (by kernel_rfl) (by kernel_rfl) (by kernel_rfl) (by kernel_rfl) (fun _ _ _ h => h) (Or.inl ⟨by rfl, fun u hu => by go_simp⟩) HS1 ?_
  try simp only [Act.put, List.setIfInBounds_toArray, List.set_cons_zero, List.set_cons_succ]
  refine till_one 1 (by kernel_rfl) rfl (fun K hK => ?_)
  go_simp
  obtain ⟨wb, hwb⟩ : ∃ wb, wd.alloc (.cells #[.int .u8 3] 5) = wb := ⟨_, rfl⟩
  have zb : wb.heap.size = g + 1 + 1 := by rw [← hwb, ← zd]; simp
  have Hb : Hid (Below wd.heap.size wd wb ∧ wb.heap[g + 1]? = some (.cells #[.int .u8 3] 5 (0, 0))) := hide (by rw [← hwb, ← zd]; exact ⟨(Below.refl _ _).alloc (Nat.le_refl _) _, heap_alloc_new _ _⟩)
  rw [hwb]
  clear hwb
  have HSb := cell_later (unhide Hb).1 HS1
  refine hK.out _ _ (Or.inr HSb) ?_
  clear hK K
  try simp only [Act.put, List.setIfInBounds_toArray, List.set_cons_zero, List.set_cons_succ]
  refine till_one 2 (by kernel_rfl) rfl (fun K hK => ?_)
  refine step_app (by rfl) _ _ (by rfl) base N sv xs (by rfl) (own_below (own_below (unhide HO1).1 (unhide HD)) (unhide Hb).1) (some ⟨g + 1, 0, none⟩) 1 1 [3] (by rfl) (row_one (unhide Hb).2 (by omega) (by omega)) hl1 (by omega) ?_
  intro v2 wa H2
  change K (Act.put _ (some 26) _) wa
  have za := (unhide H2).2.grown.size
  have HSa : wa.cell? ⟨g, 1, none⟩ = some (.int .i64 n) := (World.cell?_of_block ((unhide H2).2.far (b := g) (by omega) (unhide HGN g (Nat.le_refl _)))).trans HSb
  have CC := hide (refInt_own n base v2 (N + 1) (xs ++ [3]) wa (unhide H2).1 (by omega) (small_snoc (unhide HSX) (by omega) (by omega)) (by omega) hbn.1.1 hbn.1.2 (by omega))
  rw [hZ] at CC
  refine hK.out _ _ (Or.inr HSa) ?_
  clear hK K
  try simp only [Act.put, List.setIfInBounds_toArray, List.set_cons_zero, List.set_cons_succ]
  refine till_one 5 (by kernel_rfl) rfl (fun K hK => ?_)
  go_simp
  refine (unhide CC).mono ?_
  rintro e we ⟨v6, rfl, own6, gr6⟩
  have hv2 : some g ≠ v2.ownBlock := fun e => by
    rcases (unhide H2).2.row _ e.symm with h | h
    · exact unhide HGN _ (Nat.le_refl _) h.symm
    · omega
  have ze := gr6.grown.size
  have HRe : Hid (we.heap[g]? = some (.cells #[.int .i64 2, .int .i64 n, .string s, .slice al ln cl, .slice ak m ck] 42 (0, 0))) := hide ((((gr6.far (b := g) (by omega) hv2).trans ((unhide H2).2.far (b := g) (by omega) (unhide HGN g (Nat.le_refl _)))).trans ((unhide Hb).1.block g (by omega))).trans (((unhide HD).block g (by omega)).trans (unhide HO1).2.2.1))
  have HSe : we.cell? ⟨g, 1, none⟩ = some (.int .i64 n) := (World.cell?_of_block (gr6.far (b := g) (by omega) hv2)).trans HSa
  have HE : Hid (we.ownsRow base 5 1 v6 (N + 1 + Z.length) ((xs ++ [3] ++ Z).map (Value.int .u8)) ∧ Grew w1 we sv v6) := hide ⟨own6, Grew.behind (unhide HD) (Grew.behind (unhide Hb).1 ((unhide H2).2.trans gr6))⟩
  clear own6 gr6 hv2 CC
  go_wp2_with fail
  refine hK.out _ _ (Or.inr HSe) ?_
  clear hK K
  try simp only [Act.put, List.setIfInBounds_toArray, List.set_cons_zero, List.set_cons_succ]
  refine till_one 6 (by kernel_rfl) rfl (fun K hK => ?_)
  go_simp
  refine hK.out _ _ (Or.inl rfl) ?_
  clear hK K
  try simp only [Act.put, List.setIfInBounds_toArray, List.set_cons_zero, List.set_cons_succ]
  refine till_done (by kernel_rfl) ?_ _
  go_wp2_with fail
  go_ret
  refine ⟨_, rfl, ?_, Grew.behind ?_ (unhide HE).2⟩
  · have e1 : N + (Z.length + 1) = N + 1 + Z.length := by omega
    first
      | (rw [List.length_cons, e1]; simpa [List.append_assoc] using (unhide HE).1)
      | (simpa [List.append_assoc, Nat.add_assoc, Nat.add_comm 1] using (unhide HE).1)
  · first | exact (unhide HO1).2.1 | (rw [← hg]; exact (unhide HO1).2.1)

set_option maxRecDepth 100000 in
set_option maxHeartbeats 1000000 in
theorem put3 (n : Int) (s : ByteArray) (l : List Vl) (ks : List ByteArray) (x : Value) (B base : Nat) (w : World) (sv : Value) (N : Nat) (xs : List Int) (hv : IsV w B (.mk 3 n s l ks) x) (hBb : B ≤ base) (hbw : base ≤ w.heap.size) (hown : w.ownsRow base 5 1 sv N (xs.map (Value.int .u8))) (hsm : ∀ c ∈ xs, 0 ≤ c ∧ c ≤ 255) (hlim : N + (wenc (.mk 3 n s l ks)).length + 10 ≤ 140737489403904) :
    Calls Tryz.prog 97 #[sv, x] w fun e w' => Laid base sv N xs (wenc (.mk 3 n s l ks)) w e w' := by
  rw [wenc3] at hlim ⊢
  obtain ⟨k0, n0, s0, l0, ks0, al, ak, cl, ck, hv0, rfl⟩ := hv.shape
  cases hv0
  obtain ⟨m, hm⟩ : ∃ m, ks.length = m := ⟨_, rfl⟩
  obtain ⟨ln, hln⟩ : ∃ ln, l.length = ln := ⟨_, rfl⟩
  have hbn : (-9223372036854775808 ≤ n ∧ n ≤ 9223372036854775807) ∧ s.size ≤ 140737488351232 := by
    obtain ⟨_, _, _, h1, h2, V, hf, _⟩ := IsP.at hv
    exact ⟨hf.bn, hf.bs⟩
  rw [hm, hln] at hv
  rw [hm, hln]
  obtain ⟨w1, hw1⟩ : ∃ w1, w.alloc (.cells #[.int .i64 3, .int .i64 n, .string s, .slice al ln cl, .slice ak m ck] 42) = w1 := ⟨_, rfl⟩
  have BX := Box.mk' w (.int .i64 3) (.int .i64 n) (.string s) (.slice al ln cl) (.slice ak m ck)
  rw [hw1] at BX
  obtain ⟨g, hg⟩ : ∃ g, w.heap.size = g := ⟨_, rfl⟩
  have z1 := BX.size
  have z1g : w1.heap.size = g + 1 := by omega
  have hgn : ∀ q, g ≤ q → some q ≠ sv.ownBlock := fun q hq e => by have := (hown.lt q e.symm).2; omega
  have own1 : w1.ownsRow base 5 1 sv N (xs.map (Value.int .u8)) := by rw [← hw1]; exact hown.alloc _
  have R1 : w1.heap[g]? = some (.cells #[.int .i64 3, .int .i64 n, .string s, .slice al ln cl, .slice ak m ck] 42 (0, 0)) := by rw [← hg]; exact BX.row
  have HO1 := hide (And.intro own1 (And.intro BX.below (And.intro R1 (hv.mono (BX.below.mono (by omega))))))
  obtain ⟨c0, c1, c2, c3, c4⟩ := row_cell R1
  have hb1 : base ≤ w1.heap.size := by omega
  have HGN := hide hgn
  have HSX := hide hsm
  clear BX hv hown own1 z1 R1 hgn hsm
  obtain ⟨Z, hZ⟩ : ∃ Z, tx s = Z := ⟨_, rfl⟩
  have htl : (encF 9 (s.size : Int)).length + s.size = Z.length := by rw [← hZ]; unfold tx; rw [List.length_append, nums_len]
  rw [hZ] at hlim
  rw [hZ]
  have hl1 : N + 1 ≤ 140737489403904 := by rw [List.length_cons] at hlim; omega
  have hl2 : N + 1 + 10 + s.size ≤ 140737489403904 := by rw [List.length_cons] at hlim; omega
  clear htl
  go_enter Tryz.func97, Tryz.ntmps97
  go_upto_region 9 with fail
  refine till_begin (S := fun w' => w'.cell? ⟨g, 2, none⟩ = some (.string s)) 6 (by kernel_rfl) ?_
  obtain ⟨wd, hwd⟩ : ∃ wd, w1.drew = wd := ⟨_, rfl⟩
  have HD : Hid (Below w1.heap.size w1 wd) := hide (by rw [← hwd]; exact (Below.refl _ _).drew)
  have zd : wd.heap.size = g + 1 := by rw [← hwd]; exact z1g
  have HS1 := cell_later (unhide HD) c2
  rw [hwd]
  clear hwd c0 c1 c2 c3 c4
  refine till_take 0 (v := sv) (some 32) rfl rfl rfl (by kernel_rfl) (by kernel_rfl) (by kernel_rfl) (by kernel_rfl) (fun _ _ _ h => h) (Or.inl ⟨by rfl, fun u hu => by go_simp⟩) HS1 ?_
  try simp only [Act.put, List.setIfInBounds_toArray, List.set_cons_zero, List.set_cons_succ]
  refine till_take 3 (v := .pointer (some ⟨g, 2, none⟩)) (some 35) rfl rfl rfl (by kernel_rfl) (by kernel_rfl) (by kernel_rfl) (by kernel_rfl) (fun _ _ _ h => h) (Or.inl ⟨by rfl, fun u hu => by go_simp⟩) HS1 ?_
  try simp only [Act.put, List.setIfInBounds_toArray, List.set_cons_zero, List.set_cons_succ]
  refine till_take 4 (v := .string s) (some 36) rfl rfl rfl (by kernel_rfl) (by kernel_rfl) (by kernel_rfl) (by kernel_rfl) (fun _ _ _ h => h) (Or.inl ⟨by rfl, fun u hu => by go_simp⟩) HS1 ?_
  try simp only [Act.put, List.setIfInBounds_toArray, List.set_cons_zero, List.set_cons_succ]
  refine till_one 1 (by kernel_rfl) rfl (fun K hK => ?_)
  go_simp
  obtain ⟨wb, hwb⟩ : ∃ wb, wd.alloc (.cells #[.int .u8 4] 5) = wb := ⟨_, rfl⟩
  have zb : wb.heap.size = g + 1 + 1 := by rw [← hwb, ← zd]; simp
  have Hb : Hid (Below wd.heap.size wd wb ∧ wb.heap[g + 1]? = some (.cells #[.int .u8 4] 5 (0, 0))) := hide (by rw [← hwb, ← zd]; exact ⟨(Below.refl _ _).alloc (Nat.le_refl _) _, heap_alloc_new _ _⟩)
  rw [hwb]
  clear hwb
  have HSb := cell_later (unhide Hb).1 HS1
  refine hK.out _ _ (Or.inr HSb) ?_
  clear hK K
  try simp only [Act.put, List.setIfInBounds_toArray, List.set_cons_zero, List.set_cons_succ]
  refine till_one 2 (by kernel_rfl) rfl (fun K hK => ?_)
  refine step_app (by rfl) _ _ (by rfl) base N sv xs (by rfl) (own_below (own_below (unhide HO1).1 (unhide HD)) (unhide Hb).1) (some ⟨g + 1, 0, none⟩) 1 1 [4] (by rfl) (row_one (unhide Hb).2 (by omega) (by omega)) hl1 (by omega) ?_
  intro v2 wa H2
  change K (Act.put _ (some 34) _) wa
  have za := (unhide H2).2.grown.size
  have HSa : wa.cell? ⟨g, 2, none⟩ = some (.string s) := (World.cell?_of_block ((unhide H2).2.far (b := g) (by omega) (unhide HGN g (Nat.le_refl _)))).trans HSb
  have CC := hide (refText_own s base v2 (N + 1) (xs ++ [4]) wa (unhide H2).1 (by omega) (small_snoc (unhide HSX) (by omega) (by omega)) (by omega) (by omega))
  rw [hZ] at CC
  refine hK.out _ _ (Or.inr HSa) ?_
  clear hK K
  try simp only [Act.put, List.setIfInBounds_toArray, List.set_cons_zero, List.set_cons_succ]
  refine till_one 5 (by kernel_rfl) rfl (fun K hK => ?_)
  go_simp
  refine (unhide CC).mono ?_
  rintro e we ⟨v6, rfl, own6, gr6⟩
  have hv2 : some g ≠ v2.ownBlock := fun e => by
    rcases (unhide H2).2.row _ e.symm with h | h
    · exact unhide HGN _ (Nat.le_refl _) h.symm
    · omega
  have ze := gr6.grown.size
  have HRe : Hid (we.heap[g]? = some (.cells #[.int .i64 3, .int .i64 n, .string s, .slice al ln cl, .slice ak m ck] 42 (0, 0))) := hide ((((gr6.far (b := g) (by omega) hv2).trans ((unhide H2).2.far (b := g) (by omega) (unhide HGN g (Nat.le_refl _)))).trans ((unhide Hb).1.block g (by omega))).trans (((unhide HD).block g (by omega)).trans (unhide HO1).2.2.1))
  have HSe : we.cell? ⟨g, 2, none⟩ = some (.string s) := (World.cell?_of_block (gr6.far (b := g) (by omega) hv2)).trans HSa
  have HE : Hid (we.ownsRow base 5 1 v6 (N + 1 + Z.length) ((xs ++ [4] ++ Z).map (Value.int .u8)) ∧ Grew w1 we sv v6) := hide ⟨own6, Grew.behind (unhide HD) (Grew.behind (unhide Hb).1 ((unhide H2).2.trans gr6))⟩
  clear own6 gr6 hv2 CC
  go_wp2_with fail
  refine hK.out _ _ (Or.inr HSe) ?_
  clear hK K
  try simp only [Act.put, List.setIfInBounds_toArray, List.set_cons_zero, List.set_cons_succ]
  refine till_one 6 (by kernel_rfl) rfl (fun K hK => ?_)
  go_simp
  refine hK.out _ _ (Or.inl rfl) ?_
  clear hK K
  try simp only [Act.put, List.setIfInBounds_toArray, List.set_cons_zero, List.set_cons_succ]
  refine till_done (by kernel_rfl) ?_ _
  go_wp2_with fail
  go_ret
  refine ⟨_, rfl, ?_, Grew.behind ?_ (unhide HE).2⟩
  · have e1 : N + (Z.length + 1) = N + 1 + Z.length := by omega
    first
      | (rw [List.length_cons, e1]; simpa [List.append_assoc] using (unhide HE).1)
      | (simpa [List.append_assoc, Nat.add_assoc, Nat.add_comm 1] using (unhide HE).1)
  · first | exact (unhide HO1).2.1 | (rw [← hg]; exact (unhide HO1).2.1)

set_option maxRecDepth 100000 in
set_option maxHeartbeats 1000000 in
theorem put4 (b : Nat) (ih : PutF b) (n : Int) (s : ByteArray) (l : List Vl) (ks : List ByteArray) (x : Value) (B base : Nat) (w : World) (sv : Value) (N : Nat) (xs : List Int) (hok : okL b l = true) (hv : IsV w B (.mk 4 n s l ks) x) (hBb : B ≤ base) (hbw : base ≤ w.heap.size) (hown : w.ownsRow base 5 1 sv N (xs.map (Value.int .u8))) (hsm : ∀ c ∈ xs, 0 ≤ c ∧ c ≤ 255) (hlim : N + (wenc (.mk 4 n s l ks)).length + 10 ≤ 140737489403904) :
    Calls Tryz.prog 97 #[sv, x] w fun e w' => Laid base sv N xs (wenc (.mk 4 n s l ks)) w e w' := by
  rw [wenc4] at hlim ⊢
  obtain ⟨k0, n0, s0, l0, ks0, al, ak, cl, ck, hv0, rfl⟩ := hv.shape
  cases hv0
  obtain ⟨m, hm⟩ : ∃ m, ks.length = m := ⟨_, rfl⟩
  obtain ⟨ln, hln⟩ : ∃ ln, l.length = ln := ⟨_, rfl⟩
  have hbn : (-9223372036854775808 ≤ n ∧ n ≤ 9223372036854775807) ∧ s.size ≤ 140737488351232 := by
    obtain ⟨_, _, _, h1, h2, V, hf, _⟩ := IsP.at hv
    exact ⟨hf.bn, hf.bs⟩
  obtain ⟨hlb, hmb⟩ : ln ≤ 140737488351232 ∧ ∀ t ∈ ks, t.size ≤ 140737488351232 := by
    obtain ⟨_, _, _, h1, h2, V, hf, _⟩ := IsP.at hv
    exact ⟨by rw [← hln]; exact hf.bl, hf.bt⟩
  have hfit := hv.fit
  simp only [fitB, Bool.and_eq_true] at hfit
  rw [hm, hln] at hv
  rw [hm, hln]
  obtain ⟨w1, hw1⟩ : ∃ w1, w.alloc (.cells #[.int .i64 4, .int .i64 n, .string s, .slice al ln cl, .slice ak m ck] 42) = w1 := ⟨_, rfl⟩
  have BX := Box.mk' w (.int .i64 4) (.int .i64 n) (.string s) (.slice al ln cl) (.slice ak m ck)
  rw [hw1] at BX
  obtain ⟨g, hg⟩ : ∃ g, w.heap.size = g := ⟨_, rfl⟩
  have z1 := BX.size
  have z1g : w1.heap.size = g + 1 := by omega
  have hgn : ∀ q, g ≤ q → some q ≠ sv.ownBlock := fun q hq e => by have := (hown.lt q e.symm).2; omega
  have own1 : w1.ownsRow base 5 1 sv N (xs.map (Value.int .u8)) := by rw [← hw1]; exact hown.alloc _
  have R1 : w1.heap[g]? = some (.cells #[.int .i64 4, .int .i64 n, .string s, .slice al ln cl, .slice ak m ck] 42 (0, 0)) := by rw [← hg]; exact BX.row
  have HO1 := hide (And.intro own1 (And.intro BX.below (And.intro R1 (hv.mono (BX.below.mono (by omega))))))
  obtain ⟨c0, c1, c2, c3, c4⟩ := row_cell R1
  have hb1 : base ≤ w1.heap.size := by omega
  have HGN := hide hgn
  have HSX := hide hsm
  clear BX hv hown own1 z1 R1 hgn hsm
  obtain ⟨Z, hZ⟩ : ∃ Z, encF 9 (ln : Int) = Z := ⟨_, rfl⟩
  have hZ8 : ∀ c ∈ Z, 0 ≤ c ∧ c ≤ 255 := by rw [← hZ]; exact encF9_bytes _ (by omega) (by omega)
  rw [hln, hZ] at hlim
  try rw [hln]
  rw [hZ]
  have hlm : N + 1 + Z.length + (wencL false l ks).length + 10 ≤ 140737489403904 := by rw [List.length_cons, List.length_append] at hlim; omega
  have hl1 : N + 1 ≤ 140737489403904 := by omega
  have hl2 : N + 1 + 10 ≤ 140737489403904 := by omega
  have wln : IntKind.u64.wrap (ln : Int) = (ln : Int) := by rw [IntKind.wrap_u64]; omega
  have HL := hide (And.intro hm (And.intro hln (And.intro hok (And.intro hmb (And.intro hZ8 hfit.2)))))
  have HLIM := hide hlm
  clear hlim hok hm hln hmb hZ8 hfit hlm
  go_enter Tryz.func97, Tryz.ntmps97
  go_upto_region 11 with fail
  refine till_begin (S := fun w' => w'.cell? ⟨g, 3, none⟩ = some (.slice al ln cl)) 8 (by kernel_rfl) ?_
  obtain ⟨wd, hwd⟩ : ∃ wd, w1.drew = wd := ⟨_, rfl⟩
  have HD : Hid (Below w1.heap.size w1 wd) := hide (by rw [← hwd]; exact (Below.refl _ _).drew)
  have zd : wd.heap.size = g + 1 := by rw [← hwd]; exact z1g
  have HS1 := cell_later (unhide HD) c3
  rw [hwd]
  clear hwd c0 c1 c2 c3 c4
  refine till_take 0 (v := sv) (some 40) rfl rfl rfl (by kernel_rfl) (by kernel_rfl) (by kernel_rfl) (by kernel_rfl) (fun _ _ _ h => h) (Or.inl ⟨by rfl, fun u hu => by go_simp⟩) HS1 ?_
  try simp only [Act.put, List.setIfInBounds_toArray, List.set_cons_zero, List.set_cons_succ]
  refine till_take 3 (v := .pointer (some ⟨g, 3, none⟩)) (some 43) rfl rfl rfl (by kernel_rfl) (by kernel_rfl) (by kernel_rfl) (by kernel_rfl) (fun _ _ _ h => h) (Or.inl ⟨by rfl, fun u hu => by go_simp⟩) HS1 ?_
  try simp only [Act.put, List.setIfInBounds_toArray, List.set_cons_zero, List.set_cons_succ]
  refine till_take 4 (v := .slice al ln cl) (some 44) rfl rfl rfl (by kernel_rfl) (by kernel_rfl) (by kernel_rfl) (by kernel_rfl) (fun _ _ _ h => h) (Or.inl ⟨by rfl, fun u hu => by go_simp⟩) HS1 ?_
  try simp only [Act.put, List.setIfInBounds_toArray, List.set_cons_zero, List.set_cons_succ]
  refine till_take 5 (v := .int .i64 ln) (some 45) rfl rfl rfl (by kernel_rfl) (by kernel_rfl) (by kernel_rfl) (by kernel_rfl) (fun _ _ _ h => h) (Or.inl ⟨by rfl, fun u hu => by go_simp⟩) HS1 ?_
  try simp only [Act.put, List.setIfInBounds_toArray, List.set_cons_zero, List.set_cons_succ]
  refine till_take 6 (v := .int .u64 ln) (some 46) rfl rfl rfl (by kernel_rfl) (by kernel_rfl) (by kernel_rfl) (by kernel_rfl) (fun _ _ _ h => h) (Or.inl ⟨by rfl, fun u hu => by go_simp⟩) HS1 ?_
  try simp only [Act.put, List.setIfInBounds_toArray, List.set_cons_zero, List.set_cons_succ]
  refine till_one 1 (by kernel_rfl) rfl (fun K hK => ?_)
  go_simp
  obtain ⟨wb, hwb⟩ : ∃ wb, wd.alloc (.cells #[.int .u8 5] 5) = wb := ⟨_, rfl⟩
  have zb : wb.heap.size = g + 1 + 1 := by rw [← hwb, ← zd]; simp
  have Hb : Hid (Below wd.heap.size wd wb ∧ wb.heap[g + 1]? = some (.cells #[.int .u8 5] 5 (0, 0))) := hide (by rw [← hwb, ← zd]; exact ⟨(Below.refl _ _).alloc (Nat.le_refl _) _, heap_alloc_new _ _⟩)
  rw [hwb]
  clear hwb
  have HSb := cell_later (unhide Hb).1 HS1
  refine hK.out _ _ (Or.inr HSb) ?_
  clear hK K
  try simp only [Act.put, List.setIfInBounds_toArray, List.set_cons_zero, List.set_cons_succ]
  refine till_one 2 (by kernel_rfl) rfl (fun K hK => ?_)
  refine step_app (by rfl) _ _ (by rfl) base N sv xs (by rfl) (own_below (own_below (unhide HO1).1 (unhide HD)) (unhide Hb).1) (some ⟨g + 1, 0, none⟩) 1 1 [5] (by rfl) (row_one (unhide Hb).2 (by omega) (by omega)) hl1 (by omega) ?_
  intro v2 wa H2
  change K (Act.put _ (some 42) _) wa
  have za := (unhide H2).2.grown.size
  have HSa : wa.cell? ⟨g, 3, none⟩ = some (.slice al ln cl) := (World.cell?_of_block ((unhide H2).2.far (b := g) (by omega) (unhide HGN g (Nat.le_refl _)))).trans HSb
  have CC := hide (refUint_own (ln : Int) base v2 (N + 1) (xs ++ [5]) wa (unhide H2).1 (by omega) (small_snoc (unhide HSX) (by omega) (by omega)) (by omega) (by omega) (by omega) (by omega))
  rw [hZ] at CC
  refine hK.out _ _ (Or.inr HSa) ?_
  clear hK K
  try simp only [Act.put, List.setIfInBounds_toArray, List.set_cons_zero, List.set_cons_succ]
  refine till_one 7 (by kernel_rfl) rfl (fun K hK => ?_)
  go_simp
  refine (unhide CC).mono ?_
  rintro e we ⟨v6, rfl, own6, gr6⟩
  have hv2 : some g ≠ v2.ownBlock := fun e => by
    rcases (unhide H2).2.row _ e.symm with h | h
    · exact unhide HGN _ (Nat.le_refl _) h.symm
    · omega
  have ze := gr6.grown.size
  have HRe : Hid (we.heap[g]? = some (.cells #[.int .i64 4, .int .i64 n, .string s, .slice al ln cl, .slice ak m ck] 42 (0, 0))) := hide ((((gr6.far (b := g) (by omega) hv2).trans ((unhide H2).2.far (b := g) (by omega) (unhide HGN g (Nat.le_refl _)))).trans ((unhide Hb).1.block g (by omega))).trans (((unhide HD).block g (by omega)).trans (unhide HO1).2.2.1))
  have HSe : we.cell? ⟨g, 3, none⟩ = some (.slice al ln cl) := (World.cell?_of_block (gr6.far (b := g) (by omega) hv2)).trans HSa
  have HE : Hid (we.ownsRow base 5 1 v6 (N + 1 + Z.length) ((xs ++ [5] ++ Z).map (Value.int .u8)) ∧ Grew w1 we sv v6) := hide ⟨own6, Grew.behind (unhide HD) (Grew.behind (unhide Hb).1 ((unhide H2).2.trans gr6))⟩
  clear own6 gr6 hv2 CC
  go_wp2_with fail
  refine hK.out _ _ (Or.inr HSe) ?_
  clear hK K
  try simp only [Act.put, List.setIfInBounds_toArray, List.set_cons_zero, List.set_cons_succ]
  refine till_one 8 (by kernel_rfl) rfl (fun K hK => ?_)
  go_simp
  refine hK.out _ _ (Or.inl rfl) ?_
  clear hK K
  try simp only [Act.put, List.setIfInBounds_toArray, List.set_cons_zero, List.set_cons_succ]
  refine till_done (by kernel_rfl) ?_ _
  have HRW : Hid (∀ u v, Grew we u v6 v → u.heap[g]? = some (.cells #[.int .i64 4, .int .i64 n, .string s, .slice al ln cl, .slice ak m ck] 42 (0, 0)) ∧ IsV u B (.mk 4 n s l ks) (.agg #[.int .i64 4, .int .i64 n, .string s, .slice al ln cl, .slice ak m ck])) := hide (fun u v hu => by
    have hne : some g ≠ v6.ownBlock := fun e => by
      rcases (unhide HE).2.row g e.symm with h | h
      · exact unhide HGN g (Nat.le_refl _) h.symm
      · omega
    exact ⟨(hu.far (by omega) hne).trans (unhide HRe), (unhide HO1).2.2.2.mono (((((unhide HE).2.below (unhide HO1).1 hb1).trans (hu.below (unhide HE).1 (by omega)))).mono hBb)⟩)
  have HB0 : Hid (B ≤ base ∧ base ≤ we.heap.size) := hide ⟨hBb, by omega⟩
  clear HSe HSa HSb HS1 H2 Hb HD zd zb za hl1 hl2 wln hZ
  go_wp2_with fail
  go_loopw [0, 5] (fun v x wr => ∃ (i M : Nat), i ≤ ln ∧ x = .int .i64 (i : Int) ∧ M + 10 ≤ 140737489403904 ∧ 0 < M ∧ Hid (Grew we wr v6 v ∧ wr.ownsRow base 5 1 v M ((xs ++ [5] ++ Z ++ wencL false (l.take i) ks).map (Value.int .u8)) ∧ M = N + 1 + Z.length + (wencL false (l.take i) ks).length)) (fun _ x _ => ln - (intOf x).toNat)
  case atStart => exact ⟨0, N + 1 + Z.length, Nat.zero_le _, rfl, by have := unhide HLIM; omega, by omega, hide ⟨Grew.refl _ _, by simpa [wencL_nil] using (unhide HE).1, by simp [wencL_nil]⟩⟩
  case round =>
    obtain ⟨i, M, hi, rfl, hM, hM0, HI⟩ := hrel
    obtain ⟨vi, hvi⟩ : ∃ vi, vi = u0 := ⟨_, rfl⟩
    subst hvi
    have HRr := hide (unhide HRW wr vi (unhide HI).1)
    obtain ⟨c0, c1, c2, c3, c4⟩ := row_cell (unhide HRr).1
    have zr : we.heap.size ≤ wr.heap.size := (unhide HI).1.grown.size
    have zb := (unhide HB0).2
    have HSM : Hid (∀ c ∈ xs ++ [5] ++ Z ++ wencL false (l.take i) ks, 0 ≤ c ∧ c ≤ 255) := hide (by
      have hok := (unhide HL).2.2.1
      have hf := (unhide HL).2.2.2.2.2
      have hw := wencL_small false l ks b hok hf (unhide HL).2.2.2.1
      intro c hc
      rcases List.mem_append.1 hc with hc | hc
      · rcases List.mem_append.1 hc with hc | hc
        · exact small_snoc (unhide HSX) (by omega) (by omega) c hc
        · exact (unhide HL).2.2.2.2.1 c hc
      · refine hw c ?_
        rw [wencL_cut false l ks i]
        exact List.mem_append_left _ hc)
    by_cases hlt : i < ln
    · have i1 : (i : Int) < (ln : Int) := by omega
      have i0 : (0 : Int) ≤ (i : Int) := by omega
      have HI1 : Hid (i + 1 ≤ ln) := hide (by omega)
      obtain ⟨y, hy⟩ : ∃ y, l[i]? = some y := ⟨_, List.getElem?_eq_getElem (by have := (unhide HL).2.1; omega)⟩
      have hok := okL_all b l (unhide HL).2.2.1 y (List.mem_of_getElem? hy)
      have hnx := wencL_next false l ks i y hy
      have hle := wencL_take_le false l ks (i + 1)
      rw [if_neg (by simp), List.append_nil] at hnx
      have hlen := congrArg List.length hnx
      rw [List.length_append] at hlen
      have hT2 : M + (wenc y).length + 10 ≤ 140737489403904 := by have := unhide HLIM; have := (unhide HI).2.2; omega
      have hvr := (unhide HRW wr vi ((unhide HI).1)).2
      obtain ⟨a, y0, y1, y2, al', ak', ll', m', cl', ck', rfl, hab, hce, hve⟩ := hvr.elem i y hy
      have e0 : wr.cell? (a.add (i * 5)) = some (.int .i64 y0) := hce 0 _ rfl
      have e1 : wr.cell? ⟨(a.add (i * 5)).block, (a.add (i * 5)).off + 1, none⟩ = some (.int .i64 y1) := hce 1 _ rfl
      have e2 : wr.cell? ⟨(a.add (i * 5)).block, (a.add (i * 5)).off + 2, none⟩ = some (.string y2) := hce 2 _ rfl
      have e3 : wr.cell? ⟨(a.add (i * 5)).block, (a.add (i * 5)).off + 3, none⟩ = some (.slice al' ll' cl') := hce 3 _ rfl
      have e4 : wr.cell? ⟨(a.add (i * 5)).block, (a.add (i * 5)).off + 4, none⟩ = some (.slice ak' m' ck') := hce 4 _ rfl
      have CI := hide (ih y _ B base wr vi M _ hok hve (unhide HB0).1 (by omega) (unhide HI).2.1 (unhide HSM) hT2)
      have HN2 := hide (And.intro hnx hlen)
      clear hvr hce hve hy hnx hlen hle
      go_wp2_with fail
      refine (unhide CI).mono ?_
      rintro e w8 ⟨v8, rfl, own8, gr8⟩
      have H8 : Hid (Grew we w8 v6 v8 ∧ w8.ownsRow base 5 1 v8 (M + (wenc y).length) ((xs ++ [5] ++ Z ++ wencL false (l.take (i + 1)) ks).map (Value.int .u8)) ∧ M + (wenc y).length = N + 1 + Z.length + (wencL false (l.take (i + 1)) ks).length) := hide (by
        refine ⟨(unhide HI).1.trans gr8, ?_, ?_⟩
        · rw [(unhide HN2).1]
          simpa [List.append_assoc] using own8
        · have h1 := (unhide HN2).2
          have h2 := (unhide HI).2.2
          omega)
      clear own8 gr8 CI
      go_wp2_with fail
      go_roundw
      case rel => exact ⟨i + 1, _, unhide HI1, by go_num, hT2, by omega, H8⟩
      case measure => have := unhide HI1; simp [intOf]; omega
    · have i1 : ¬ (i : Int) < (ln : Int) := by omega
      have hii : i = ln := by omega
      subst hii
      have hfin : wencL false (l.take i) ks = wencL false l ks := by rw [List.take_of_length_le (by rw [(unhide HL).2.1]; exact Nat.le_refl _)]
      have HF := hide hfin
      clear hfin
      go_wp2_with fail
      go_ret
      obtain ⟨hG, hO, hM'⟩ := unhide HI
      rw [unhide HF] at hO hM'
      refine ⟨vi, rfl, ?_, Grew.behind ?_ ((unhide HE).2.trans hG)⟩
      · have eM : N + (5 :: (Z ++ wencL false l ks)).length = M := by rw [List.length_cons, List.length_append]; omega
        rw [eM]
        simpa using hO
      · first | exact (unhide HO1).2.1 | (rw [← hg]; exact (unhide HO1).2.1)

set_option maxRecDepth 100000 in
set_option maxHeartbeats 1000000 in
theorem put5 (b : Nat) (ih : PutF b) (n : Int) (s : ByteArray) (l : List Vl) (ks : List ByteArray) (x : Value) (B base : Nat) (w : World) (sv : Value) (N : Nat) (xs : List Int) (hok : okL b l = true) (hk5 : ks.length = l.length) (hv : IsV w B (.mk 5 n s l ks) x) (hBb : B ≤ base) (hbw : base ≤ w.heap.size) (hown : w.ownsRow base 5 1 sv N (xs.map (Value.int .u8))) (hsm : ∀ c ∈ xs, 0 ≤ c ∧ c ≤ 255) (hlim : N + (wenc (.mk 5 n s l ks)).length + 10 ≤ 140737489403904) :
    Calls Tryz.prog 97 #[sv, x] w fun e w' => Laid base sv N xs (wenc (.mk 5 n s l ks)) w e w' := by
  rw [wenc5] at hlim ⊢
  obtain ⟨k0, n0, s0, l0, ks0, al, ak, cl, ck, hv0, rfl⟩ := hv.shape
  cases hv0
  obtain ⟨m, hm⟩ : ∃ m, ks.length = m := ⟨_, rfl⟩
  obtain ⟨ln, hln⟩ : ∃ ln, l.length = ln := ⟨_, rfl⟩
  have hbn : (-9223372036854775808 ≤ n ∧ n ≤ 9223372036854775807) ∧ s.size ≤ 140737488351232 := by
    obtain ⟨_, _, _, h1, h2, V, hf, _⟩ := IsP.at hv
    exact ⟨hf.bn, hf.bs⟩
  obtain ⟨hlb, hmb⟩ : ln ≤ 140737488351232 ∧ ∀ t ∈ ks, t.size ≤ 140737488351232 := by
    obtain ⟨_, _, _, h1, h2, V, hf, _⟩ := IsP.at hv
    exact ⟨by rw [← hln]; exact hf.bl, hf.bt⟩
  have hfit := hv.fit
  simp only [fitB, Bool.and_eq_true] at hfit
  rw [hm, hln] at hv
  rw [hm, hln]
  obtain ⟨w1, hw1⟩ : ∃ w1, w.alloc (.cells #[.int .i64 5, .int .i64 n, .string s, .slice al ln cl, .slice ak m ck] 42) = w1 := ⟨_, rfl⟩
  have BX := Box.mk' w (.int .i64 5) (.int .i64 n) (.string s) (.slice al ln cl) (.slice ak m ck)
  rw [hw1] at BX
  obtain ⟨g, hg⟩ : ∃ g, w.heap.size = g := ⟨_, rfl⟩
  have z1 := BX.size
  have z1g : w1.heap.size = g + 1 := by omega
  have hgn : ∀ q, g ≤ q → some q ≠ sv.ownBlock := fun q hq e => by have := (hown.lt q e.symm).2; omega
  have own1 : w1.ownsRow base 5 1 sv N (xs.map (Value.int .u8)) := by rw [← hw1]; exact hown.alloc _
  have R1 : w1.heap[g]? = some (.cells #[.int .i64 5, .int .i64 n, .string s, .slice al ln cl, .slice ak m ck] 42 (0, 0)) := by rw [← hg]; exact BX.row
  have HO1 := hide (And.intro own1 (And.intro BX.below (And.intro R1 (hv.mono (BX.below.mono (by omega))))))
  obtain ⟨c0, c1, c2, c3, c4⟩ := row_cell R1
  have hb1 : base ≤ w1.heap.size := by omega
  have HGN := hide hgn
  have HSX := hide hsm
  clear BX hv hown own1 z1 R1 hgn hsm
  obtain ⟨Z, hZ⟩ : ∃ Z, encF 9 (ln : Int) = Z := ⟨_, rfl⟩
  have hZ8 : ∀ c ∈ Z, 0 ≤ c ∧ c ≤ 255 := by rw [← hZ]; exact encF9_bytes _ (by omega) (by omega)
  rw [hln, hZ] at hlim
  try rw [hln]
  rw [hZ]
  have hlm : N + 1 + Z.length + (wencL true l ks).length + 10 ≤ 140737489403904 := by rw [List.length_cons, List.length_append] at hlim; omega
  have hl1 : N + 1 ≤ 140737489403904 := by omega
  have hl2 : N + 1 + 10 ≤ 140737489403904 := by omega
  have wln : IntKind.u64.wrap (ln : Int) = (ln : Int) := by rw [IntKind.wrap_u64]; omega
  have HL := hide (And.intro hm (And.intro hln (And.intro hok (And.intro hmb (And.intro hZ8 hfit.2)))))
  have HK5 := hide hk5
  clear hk5
  have HLIM := hide hlm
  clear hlim hok hm hln hmb hZ8 hfit hlm
  go_enter Tryz.func97, Tryz.ntmps97
  go_upto_region 13 with fail
  refine till_begin (S := fun w' => w'.cell? ⟨g, 3, none⟩ = some (.slice al ln cl)) 8 (by kernel_rfl) ?_
  obtain ⟨wd, hwd⟩ : ∃ wd, w1.drew = wd := ⟨_, rfl⟩
  have HD : Hid (Below w1.heap.size w1 wd) := hide (by rw [← hwd]; exact (Below.refl _ _).drew)
  have zd : wd.heap.size = g + 1 := by rw [← hwd]; exact z1g
  have HS1 := cell_later (unhide HD) c3
  rw [hwd]
  clear hwd c0 c1 c2 c3 c4
  refine till_take 0 (v := sv) (some 50) rfl rfl rfl (by kernel_rfl) (by kernel_rfl) (by kernel_rfl) (by kernel_rfl) (fun _ _ _ h => h) (Or.inl ⟨by rfl, fun u hu => by go_simp⟩) HS1 ?_
  try simp only [Act.put, List.setIfInBounds_toArray, List.set_cons_zero, List.set_cons_succ]
  refine till_take 3 (v := .pointer (some ⟨g, 3, none⟩)) (some 53) rfl rfl rfl (by kernel_rfl) (by kernel_rfl) (by kernel_rfl) (by kernel_rfl) (fun _ _ _ h => h) (Or.inl ⟨by rfl, fun u hu => by go_simp⟩) HS1 ?_
  try simp only [Act.put, List.setIfInBounds_toArray, List.set_cons_zero, List.set_cons_succ]
  refine till_take 4 (v := .slice al ln cl) (some 54) rfl rfl rfl (by kernel_rfl) (by kernel_rfl) (by kernel_rfl) (by kernel_rfl) (fun _ _ _ h => h) (Or.inl ⟨by rfl, fun u hu => by go_simp⟩) HS1 ?_
  try simp only [Act.put, List.setIfInBounds_toArray, List.set_cons_zero, List.set_cons_succ]
  refine till_take 5 (v := .int .i64 ln) (some 55) rfl rfl rfl (by kernel_rfl) (by kernel_rfl) (by kernel_rfl) (by kernel_rfl) (fun _ _ _ h => h) (Or.inl ⟨by rfl, fun u hu => by go_simp⟩) HS1 ?_
  try simp only [Act.put, List.setIfInBounds_toArray, List.set_cons_zero, List.set_cons_succ]
  refine till_take 6 (v := .int .u64 ln) (some 56) rfl rfl rfl (by kernel_rfl) (by kernel_rfl) (by kernel_rfl) (by kernel_rfl) (fun _ _ _ h => h) (Or.inl ⟨by rfl, fun u hu => by go_simp⟩) HS1 ?_
  try simp only [Act.put, List.setIfInBounds_toArray, List.set_cons_zero, List.set_cons_succ]
  refine till_one 1 (by kernel_rfl) rfl (fun K hK => ?_)
  go_simp
  obtain ⟨wb, hwb⟩ : ∃ wb, wd.alloc (.cells #[.int .u8 6] 5) = wb := ⟨_, rfl⟩
  have zb : wb.heap.size = g + 1 + 1 := by rw [← hwb, ← zd]; simp
  have Hb : Hid (Below wd.heap.size wd wb ∧ wb.heap[g + 1]? = some (.cells #[.int .u8 6] 5 (0, 0))) := hide (by rw [← hwb, ← zd]; exact ⟨(Below.refl _ _).alloc (Nat.le_refl _) _, heap_alloc_new _ _⟩)
  rw [hwb]
  clear hwb
  have HSb := cell_later (unhide Hb).1 HS1
  refine hK.out _ _ (Or.inr HSb) ?_
  clear hK K
  try simp only [Act.put, List.setIfInBounds_toArray, List.set_cons_zero, List.set_cons_succ]
  refine till_one 2 (by kernel_rfl) rfl (fun K hK => ?_)
  refine step_app (by rfl) _ _ (by rfl) base N sv xs (by rfl) (own_below (own_below (unhide HO1).1 (unhide HD)) (unhide Hb).1) (some ⟨g + 1, 0, none⟩) 1 1 [6] (by rfl) (row_one (unhide Hb).2 (by omega) (by omega)) hl1 (by omega) ?_
  intro v2 wa H2
  change K (Act.put _ (some 52) _) wa
  have za := (unhide H2).2.grown.size
  have HSa : wa.cell? ⟨g, 3, none⟩ = some (.slice al ln cl) := (World.cell?_of_block ((unhide H2).2.far (b := g) (by omega) (unhide HGN g (Nat.le_refl _)))).trans HSb
  have CC := hide (refUint_own (ln : Int) base v2 (N + 1) (xs ++ [6]) wa (unhide H2).1 (by omega) (small_snoc (unhide HSX) (by omega) (by omega)) (by omega) (by omega) (by omega) (by omega))
  rw [hZ] at CC
  refine hK.out _ _ (Or.inr HSa) ?_
  clear hK K
  try simp only [Act.put, List.setIfInBounds_toArray, List.set_cons_zero, List.set_cons_succ]
  refine till_one 7 (by kernel_rfl) rfl (fun K hK => ?_)
  go_simp
  refine (unhide CC).mono ?_
  rintro e we ⟨v6, rfl, own6, gr6⟩
  have hv2 : some g ≠ v2.ownBlock := fun e => by
    rcases (unhide H2).2.row _ e.symm with h | h
    · exact unhide HGN _ (Nat.le_refl _) h.symm
    · omega
  have ze := gr6.grown.size
  have HRe : Hid (we.heap[g]? = some (.cells #[.int .i64 5, .int .i64 n, .string s, .slice al ln cl, .slice ak m ck] 42 (0, 0))) := hide ((((gr6.far (b := g) (by omega) hv2).trans ((unhide H2).2.far (b := g) (by omega) (unhide HGN g (Nat.le_refl _)))).trans ((unhide Hb).1.block g (by omega))).trans (((unhide HD).block g (by omega)).trans (unhide HO1).2.2.1))
  have HSe : we.cell? ⟨g, 3, none⟩ = some (.slice al ln cl) := (World.cell?_of_block (gr6.far (b := g) (by omega) hv2)).trans HSa
  have HE : Hid (we.ownsRow base 5 1 v6 (N + 1 + Z.length) ((xs ++ [6] ++ Z).map (Value.int .u8)) ∧ Grew w1 we sv v6) := hide ⟨own6, Grew.behind (unhide HD) (Grew.behind (unhide Hb).1 ((unhide H2).2.trans gr6))⟩
  clear own6 gr6 hv2 CC
  go_wp2_with fail
  refine hK.out _ _ (Or.inr HSe) ?_
  clear hK K
  try simp only [Act.put, List.setIfInBounds_toArray, List.set_cons_zero, List.set_cons_succ]
  refine till_one 8 (by kernel_rfl) rfl (fun K hK => ?_)
  go_simp
  refine hK.out _ _ (Or.inl rfl) ?_
  clear hK K
  try simp only [Act.put, List.setIfInBounds_toArray, List.set_cons_zero, List.set_cons_succ]
  refine till_done (by kernel_rfl) ?_ _
  have HRW : Hid (∀ u v, Grew we u v6 v → u.heap[g]? = some (.cells #[.int .i64 5, .int .i64 n, .string s, .slice al ln cl, .slice ak m ck] 42 (0, 0)) ∧ IsV u B (.mk 5 n s l ks) (.agg #[.int .i64 5, .int .i64 n, .string s, .slice al ln cl, .slice ak m ck])) := hide (fun u v hu => by
    have hne : some g ≠ v6.ownBlock := fun e => by
      rcases (unhide HE).2.row g e.symm with h | h
      · exact unhide HGN g (Nat.le_refl _) h.symm
      · omega
    exact ⟨(hu.far (by omega) hne).trans (unhide HRe), (unhide HO1).2.2.2.mono (((((unhide HE).2.below (unhide HO1).1 hb1).trans (hu.below (unhide HE).1 (by omega)))).mono hBb)⟩)
  have HB0 : Hid (B ≤ base ∧ base ≤ we.heap.size) := hide ⟨hBb, by omega⟩
  clear HSe HSa HSb HS1 H2 Hb HD zd zb za hl1 hl2 wln hZ
  go_wp2_with fail
  go_loopw [0, 5] (fun v x wr => ∃ (i M : Nat), i ≤ ln ∧ x = .int .i64 (i : Int) ∧ M + 10 ≤ 140737489403904 ∧ 0 < M ∧ Hid (Grew we wr v6 v ∧ wr.ownsRow base 5 1 v M ((xs ++ [6] ++ Z ++ wencL true (l.take i) ks).map (Value.int .u8)) ∧ M = N + 1 + Z.length + (wencL true (l.take i) ks).length)) (fun _ x _ => ln - (intOf x).toNat)
  case atStart => exact ⟨0, N + 1 + Z.length, Nat.zero_le _, rfl, by have := unhide HLIM; omega, by omega, hide ⟨Grew.refl _ _, by simpa [wencL_nil] using (unhide HE).1, by simp [wencL_nil]⟩⟩
  case round =>
    obtain ⟨i, M, hi, rfl, hM, hM0, HI⟩ := hrel
    obtain ⟨vi, hvi⟩ : ∃ vi, vi = u0 := ⟨_, rfl⟩
    subst hvi
    have HRr := hide (unhide HRW wr vi (unhide HI).1)
    obtain ⟨c0, c1, c2, c3, c4⟩ := row_cell (unhide HRr).1
    have zr : we.heap.size ≤ wr.heap.size := (unhide HI).1.grown.size
    have zb := (unhide HB0).2
    have HSM : Hid (∀ c ∈ xs ++ [6] ++ Z ++ wencL true (l.take i) ks, 0 ≤ c ∧ c ≤ 255) := hide (by
      have hok := (unhide HL).2.2.1
      have hf := (unhide HL).2.2.2.2.2
      have hw := wencL_small true l ks b hok hf (unhide HL).2.2.2.1
      intro c hc
      rcases List.mem_append.1 hc with hc | hc
      · rcases List.mem_append.1 hc with hc | hc
        · exact small_snoc (unhide HSX) (by omega) (by omega) c hc
        · exact (unhide HL).2.2.2.2.1 c hc
      · refine hw c ?_
        rw [wencL_cut true l ks i]
        exact List.mem_append_left _ hc)
    by_cases hlt : i < ln
    · have i1 : (i : Int) < (ln : Int) := by omega
      have i0 : (0 : Int) ≤ (i : Int) := by omega
      have HI1 : Hid (i + 1 ≤ ln) := hide (by omega)
      obtain ⟨y, hy⟩ : ∃ y, l[i]? = some y := ⟨_, List.getElem?_eq_getElem (by have := (unhide HL).2.1; omega)⟩
      have hok := okL_all b l (unhide HL).2.2.1 y (List.mem_of_getElem? hy)
      have hnx := wencL_next true l ks i y hy
      have hle := wencL_take_le true l ks (i + 1)
      obtain ⟨tk, htk⟩ : ∃ tk, ks[i]? = some tk := ⟨_, List.getElem?_eq_getElem (by have := (unhide HL).2.1; have := unhide HK5; omega)⟩
      obtain ⟨a2, rfl⟩ : ∃ a2, ak = some a2 := by
        cases ak with
        | none => have h1 := (unhide HRr).2.keys.1.none rfl; have h2 := (unhide HL).2.1; have h3 := unhide HK5; omega
        | some a2 => exact ⟨a2, rfl⟩
      have cK := (unhide HRr).2.keys.1.cell a2 rfl i tk htk
      have hts := (unhide HL).2.2.2.1 tk (List.mem_of_getElem? htk)
      have hkA : keyAt ks i = tk := keyAt_of ks i tk htk
      rw [hkA, if_pos rfl] at hnx
      obtain ⟨Tk, hTk⟩ : ∃ Tk, tx tk = Tk := ⟨_, rfl⟩
      have htl : tk.size < Tk.length := by
        rw [← hTk]
        unfold tx
        have := encF_len 9 (tk.size : Int)
        rw [List.length_append, nums_len]
        omega
      have hTs := tx_small tk hts
      rw [hTk] at hnx hTs
      have hlen := congrArg List.length hnx
      rw [List.length_append, List.length_append] at hlen
      have hT1 : M + 10 + tk.size ≤ 140737489403904 := by have := unhide HLIM; have := (unhide HI).2.2; omega
      have hT2 : M + Tk.length + (wenc y).length + 10 ≤ 140737489403904 := by have := unhide HLIM; have := (unhide HI).2.2; omega
      have CT := hide (refText_own tk base vi M _ wr (unhide HI).2.1 hM0 (unhide HSM) hT1 (by omega))
      rw [hTk] at CT
      have HN2 := hide (And.intro hnx hlen)
      have HY := hide (And.intro hy hTs)
      have hmi : (i : Int) < (m : Int) := by have h1 := unhide HK5; have h2 := (unhide HL).1; have h3 := (unhide HL).2.1; omega
      clear hnx hlen hle htk hkA htl hTs
      go_wp2_with fail
      refine (unhide CT).mono ?_
      rintro e w7 ⟨v7, rfl, own7, gr7⟩
      have HG7 := hide (And.intro ((unhide HI).1.trans gr7) own7)
      have z7 := gr7.grown.size
      have hy := (unhide HY).1
      have hvr := (unhide HRW w7 v7 ((unhide HG7).1)).2
      obtain ⟨a, y0, y1, y2, al', ak', ll', m', cl', ck', rfl, hab, hce, hve⟩ := hvr.elem i y hy
      have e0 : w7.cell? (a.add (i * 5)) = some (.int .i64 y0) := hce 0 _ rfl
      have e1 : w7.cell? ⟨(a.add (i * 5)).block, (a.add (i * 5)).off + 1, none⟩ = some (.int .i64 y1) := hce 1 _ rfl
      have e2 : w7.cell? ⟨(a.add (i * 5)).block, (a.add (i * 5)).off + 2, none⟩ = some (.string y2) := hce 2 _ rfl
      have e3 : w7.cell? ⟨(a.add (i * 5)).block, (a.add (i * 5)).off + 3, none⟩ = some (.slice al' ll' cl') := hce 3 _ rfl
      have e4 : w7.cell? ⟨(a.add (i * 5)).block, (a.add (i * 5)).off + 4, none⟩ = some (.slice ak' m' ck') := hce 4 _ rfl
      have HSM7 : Hid (∀ c ∈ xs ++ [6] ++ Z ++ wencL true (l.take i) ks ++ Tk, 0 ≤ c ∧ c ≤ 255) := hide (by
        intro c hc
        rcases List.mem_append.1 hc with hc | hc
        · exact unhide HSM c hc
        · exact (unhide HY).2 c hc)
      have CI := hide (ih y _ B base w7 v7 (M + Tk.length) _ hok hve (unhide HB0).1 (by omega) own7 (unhide HSM7) hT2)
      have HR7 := hide (unhide HRW w7 v7 (unhide HG7).1).1
      clear hvr hce hve hy own7 gr7 CT c0 c1 c2 c3 c4 cK
      obtain ⟨c0, c1, c2, c3, c4⟩ := row_cell (unhide HR7)
      go_wp2_with fail
      refine (unhide CI).mono ?_
      rintro e w8 ⟨v8, rfl, own8, gr8⟩
      have H8 : Hid (Grew we w8 v6 v8 ∧ w8.ownsRow base 5 1 v8 (M + Tk.length + (wenc y).length) ((xs ++ [6] ++ Z ++ wencL true (l.take (i + 1)) ks).map (Value.int .u8)) ∧ M + Tk.length + (wenc y).length = N + 1 + Z.length + (wencL true (l.take (i + 1)) ks).length) := hide (by
        refine ⟨(unhide HG7).1.trans gr8, ?_, ?_⟩
        · rw [(unhide HN2).1]
          simpa [List.append_assoc] using own8
        · have h1 := (unhide HN2).2
          have h2 := (unhide HI).2.2
          omega)
      clear own8 gr8 CI
      go_wp2_with fail
      go_roundw
      case rel => exact ⟨i + 1, _, unhide HI1, by go_num, hT2, by omega, H8⟩
      case measure => have := unhide HI1; simp [intOf]; omega
    · have i1 : ¬ (i : Int) < (ln : Int) := by omega
      have hii : i = ln := by omega
      subst hii
      have hfin : wencL true (l.take i) ks = wencL true l ks := by rw [List.take_of_length_le (by rw [(unhide HL).2.1]; exact Nat.le_refl _)]
      have HF := hide hfin
      clear hfin
      go_wp2_with fail
      go_ret
      obtain ⟨hG, hO, hM'⟩ := unhide HI
      rw [unhide HF] at hO hM'
      refine ⟨vi, rfl, ?_, Grew.behind ?_ ((unhide HE).2.trans hG)⟩
      · have eM : N + (6 :: (Z ++ wencL true l ks)).length = M := by rw [List.length_cons, List.length_append]; omega
        rw [eM]
        simpa using hO
      · first | exact (unhide HO1).2.1 | (rw [← hg]; exact (unhide HO1).2.1)

theorem put_f_step (b : Nat) (ih : PutF b) : PutF (b + 1) := by
  intro v x B base w sv n xs hok hv hBb hbw hown hsm hlim
  cases v with
  | mk k m s l ks =>
    simp only [okB, Bool.and_eq_true] at hok
    rcases form_zero hok.1 with ⟨rfl, _⟩ | ⟨rfl, h01, _⟩ | ⟨rfl, _⟩ | ⟨rfl, _⟩ | ⟨rfl, _⟩ | ⟨rfl, _, _, hk, _⟩
    · exact put0 m s l ks x B base w sv n xs hv hBb hbw hown hsm hlim
    · exact put1 m s l ks x B base w sv n xs h01 hv hBb hbw hown hsm hlim
    · exact put2 m s l ks x B base w sv n xs hv hBb hbw hown hsm hlim
    · exact put3 m s l ks x B base w sv n xs hv hBb hbw hown hsm hlim
    · exact put4 b ih m s l ks x B base w sv n xs hok.2 hv hBb hbw hown hsm hlim
    · exact put5 b ih m s l ks x B base w sv n xs hok.2 hk hv hBb hbw hown hsm hlim

theorem put_f_any : ∀ b, PutF b
  | 0 => by
    intro v x B base w sv n xs hok
    cases v
    simp [okB] at hok
  | b + 1 => put_f_step b (put_f_any b)
end Go.Proofs.YtcknoeepdjhnoaaGreatDoor
