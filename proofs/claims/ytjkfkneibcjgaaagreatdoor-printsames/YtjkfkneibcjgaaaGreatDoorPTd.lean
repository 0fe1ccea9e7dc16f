/-
  Layer 18 (print): the walk of PrintSames; conditions: both nodes lie in memory, strconv's table is laid.
-/
import Derived.Test.YtjkfkneibcjgaaaGreatDoorA27
import Derived.Test.YtjkfkneibcjgaaaGreatDoorA28
import Derived.Test.YtjkfkneibcjgaaaGreatDoorA45
set_option linter.unusedVariables false
set_option linter.unusedSimpArgs false
namespace Go.Proofs.YtjkfkneibcjgaaaGreatDoor
open Go.RowKit
set_option linter.unusedVariables false
set_option linter.unusedSimpArgs false
theorem sameB_comm (a b : Vl) : sameB a b = sameB b a := by
  rw [Bool.eq_iff_iff, sameB_iff, sameB_iff]
  exact eq_comm
theorem beq_symm' (a b : List UInt8) : (a == b) = (b == a) := by
  rw [Bool.eq_iff_iff, beq_iff_eq, beq_iff_eq]
  exact eq_comm
theorem smL_comm : ∀ l l' : List Tn, smL l l' = smL l' l
  | [], [] => rfl
  | [], b :: r => by simp [smL]
  | b :: r, [] => by simp [smL]
  | .mk k t v f ks p :: r, .mk k' t' v' f' ks' p' :: r' => by
    rw [smL, smL, smL_comm ks ks', smL_comm r r', sameB_comm v v', beq_symm' t.toList t'.toList, decide_eq_decide.2 (eq_comm (a := k) (b := k')), decide_eq_decide.2 (eq_comm (a := f) (b := f'))]
theorem smN_comm (a b : Tn) : smN a b = smN b a := by
  unfold smN
  rw [smL_comm a.ks b.ks, sameB_comm a.v b.v, beq_symm' a.t.toList b.t.toList, decide_eq_decide.2 (eq_comm (a := a.k) (b := b.k)), decide_eq_decide.2 (eq_comm (a := a.f) (b := b.f))]
theorem saB_comm (y z : Tn) : saB y z = saB z y := by
  unfold saB
  rw [smN_comm y z, Bool.and_comm (decide (cns [y] ≤ 20000))]
theorem saB_at (k : Int) (t : ByteArray) (v : Vl) (f : Bool) (ks : List Tn) (p q : Int) : saB ⟨k, t, v, f, ks, p⟩ ⟨k, t, v, f, ks, q⟩ = saB ⟨k, t, v, f, ks, p⟩ ⟨k, t, v, f, ks, p⟩ := by
  have h : cns [⟨k, t, v, f, ks, q⟩] = cns [⟨k, t, v, f, ks, p⟩] := by rw [cns_one, cns_one]
  unfold saB
  rw [h]
  rfl
/-- a place may be another one -/
theorem IsN.place {w : World} {P : Nat → Prop} {k : Int} {t : ByteArray} {v : Vl} {f : Bool} {ks : List Tn} {p : Int} {x0 x1 x2 x3 x4 x5 x6 x7 x8 x9 : Value} (q : Int) (hq : -9223372036854775808 ≤ q ∧ q ≤ 9223372036854775807) (h : IsN w P ⟨k, t, v, f, ks, p⟩ [x0, x1, x2, x3, x4, x5, x6, x7, x8, x9]) : IsN w P ⟨k, t, v, f, ks, q⟩ [x0, x1, x2, x3, x4, x5, x6, x7, x8, .int .i64 q] := by
  obtain ⟨c, a, cc, C, h1, h5, hv, hf, hk⟩ := h
  refine ⟨c, a, cc, C, ?_, h5, hv, ⟨hf.bk, hq, hf.bt, hf.nl, hf.ll, hf.bl, hf.hl, hf.hv⟩, hk⟩
  match c, h5 with
  | [c0, c1, c2, c3, c4], _ =>
    simp [tnV] at h1 ⊢
    simp [h1]

set_option maxRecDepth 100000 in
set_option maxHeartbeats 8000000 in
theorem sames_walk (y z : Tn) (x x' : List Value) (B : Nat) (w : World) (hx : IsN w (fun b => b < B) y x) (hx' : IsN w (fun b => b < B) z x') (hB : B ≤ w.heap.size) (hG0 : 0 < w.heap.size) (hP : PowAt w) : Calls Tryz.prog 4 #[.agg x.toArray, .agg x'.toArray] w fun e w' => e = .returned (.bool true) ∧ Below w.heap.size w w' := by
  obtain ⟨vk, vn, vs, al, ak, a, ll, cl, lk, ck, cc, rfl, _⟩ := hx.opn
  obtain ⟨vk', vn', vs', al', ak', a', ll', cl', lk', ck', cc', rfl, _⟩ := hx'.opn
  obtain ⟨k, t, v, f, ks, p⟩ := y
  obtain ⟨k', t', v', f', ks', p'⟩ := z
  simp only at hx hx' ⊢
  obtain ⟨n, hn⟩ : ∃ n, ks.length = n := ⟨_, rfl⟩
  obtain ⟨n', hn'⟩ : ∃ n, ks'.length = n := ⟨_, rfl⟩
  simp only [hn, hn'] at hx hx' ⊢
  have TW := TwoL.mk' w 28 #[.int .i64 k, .string t, .int .i64 vk, .int .i64 vn, .string vs, .slice al ll cl, .slice ak lk ck, .bool f, .slice a n cc, .int .i64 p] #[.int .i64 k', .string t', .int .i64 vk', .int .i64 vn', .string vs', .slice al' ll' cl', .slice ak' lk' ck', .bool f', .slice a' n' cc', .int .i64 p']
  obtain ⟨w2, hw2⟩ : ∃ w2, (w.alloc (.cells #[.int .i64 k, .string t, .int .i64 vk, .int .i64 vn, .string vs, .slice al ll cl, .slice ak lk ck, .bool f, .slice a n cc, .int .i64 p] 28)).alloc (.cells #[.int .i64 k', .string t', .int .i64 vk', .int .i64 vn', .string vs', .slice al' ll' cl', .slice ak' lk' ck', .bool f', .slice a' n' cc', .int .i64 p'] 28) = w2 := ⟨_, rfl⟩
  rw [hw2] at TW
  obtain ⟨g, hg⟩ : ∃ g, w.heap.size = g := ⟨_, rfl⟩
  rw [hg] at TW
  have HT := hide TW
  have HV : Hid (∀ u, Below w2.heap.size w2 u → IsN u (fun b => b < B) ⟨k, t, v, f, ks, p⟩ [.int .i64 k, .string t, .int .i64 vk, .int .i64 vn, .string vs, .slice al ll cl, .slice ak lk ck, .bool f, .slice a n cc, .int .i64 p] ∧ IsN u (fun b => b < B) ⟨k', t', v', f', ks', p'⟩ [.int .i64 k', .string t', .int .i64 vk', .int .i64 vn', .string vs', .slice al' ll' cl', .slice ak' lk' ck', .bool f', .slice a' n' cc', .int .i64 p'] ∧ B ≤ u.heap.size ∧ PowAt u ∧ 0 < u.heap.size) :=
    hide (fun u hu => by
      have h0 : Below w.heap.size w u := TW.below.trans (hu.mono (by have := TW.size; omega))
      have h1 : Below B w u := h0.mono hB
      exact ⟨hx.laterB h1, hx'.laterB h1, by have := TW.size; have := hu.size; omega, hP.later h0 hG0, by have := TW.size; have := hu.size; omega⟩)
  have hz2 : w2.heap.size = g + 2 := by have := TW.size; omega
  have HZ := hide hz2
  have V2 := (unhide HV) w2 (Below.refl _ _)
  have CT := hide (treeOf_any ⟨k, t, v, f, ks, p⟩ [.int .i64 k, .string t, .int .i64 vk, .int .i64 vn, .string vs, .slice al ll cl, .slice ak lk ck, .bool f, .slice a n cc, .int .i64 p] B w2 V2.1 V2.2.2.1)
  clear TW hx hx' hn hn' hB V2 hP hG0 hz2
  obtain ⟨c0, c1, c2, c3, c4, c5, c6, c7, c8, c9⟩ := row_ten (unhide HT).at0
  go_enter Tryz.func4, Tryz.ntmps4
  go_wp2_with fail
  refine (unhide CT).mono ?_
  rintro e w3 ⟨x5, rfl, hk5, b5⟩
  obtain ⟨vk5, vn5, vs5, al5, ak5, a5, ll5, cl5, lk5, ck5, cc5, hx5, _⟩ := hk5.shape
  simp only [] at hx5
  obtain ⟨n5, hn5⟩ : ∃ m, ks.length = m := ⟨_, rfl⟩
  rw [hn5] at hx5
  subst hx5
  have X3 := hide b5
  have HK5 := hide hk5
  clear b5 hk5 hn5 CT c0 c1 c2 c3 c4 c5 c6 c7 c8 c9
  go_upto_region 3 with fail
  obtain ⟨w5, hw5⟩ : ∃ w5, w3.alloc (.cells #[.int .i64 k, .string t, .int .i64 vk5, .int .i64 vn5, .string vs5, .slice al5 ll5 cl5, .slice ak5 lk5 ck5, .bool f, .slice a5 n5 cc5, .int .i64 77] 28) = w5 := ⟨_, rfl⟩
  try rw [hw5]
  obtain ⟨H, hH⟩ : ∃ H, w3.heap.size = H := ⟨_, rfl⟩
  try rw [hH]
  have at5 : w5.heap[H]? = some (.cells #[.int .i64 k, .string t, .int .i64 vk5, .int .i64 vn5, .string vs5, .slice al5 ll5 cl5, .slice ak5 lk5 ck5, .bool f, .slice a5 n5 cc5, .int .i64 77] 28 (0, 0)) := by rw [← hw5, ← hH]; exact heap_alloc_new _ _
  have b5 : Below w3.heap.size w3 w5 := by rw [← hw5]; exact (Below.refl _ _).alloc (Nat.le_refl _) _
  have HN : Hid (∀ u, Below w5.heap.size w5 u → Below w2.heap.size w2 u ∧ Below w3.heap.size w3 u) := hide (fun u hu => by
    have h3 : Below w3.heap.size w3 u := b5.trans (hu.mono b5.size)
    exact ⟨(unhide X3).trans (h3.mono (unhide X3).size), h3⟩)
  have HBW : Hid (∀ u, Below w5.heap.size w5 u → Below w.heap.size w u) := hide (fun u hu => (unhide HT).below.trans (((unhide HN) u hu).1.mono (by have := (unhide HT).size; omega)))
  have HC : Hid (∀ u, Below w5.heap.size w5 u → u.heap[g]? = some (.cells #[.int .i64 k, .string t, .int .i64 vk, .int .i64 vn, .string vs, .slice al ll cl, .slice ak lk ck, .bool f, .slice a n cc, .int .i64 p] 28 (0, 0)) ∧ u.heap[g + 1]? = some (.cells #[.int .i64 k', .string t', .int .i64 vk', .int .i64 vn', .string vs', .slice al' ll' cl', .slice ak' lk' ck', .bool f', .slice a' n' cc', .int .i64 p'] 28 (0, 0)) ∧ u.heap[H]? = some (.cells #[.int .i64 k, .string t, .int .i64 vk5, .int .i64 vn5, .string vs5, .slice al5 ll5 cl5, .slice ak5 lk5 ck5, .bool f, .slice a5 n5 cc5, .int .i64 77] 28 (0, 0))) := hide (fun u hu => ⟨((unhide HT).later ((unhide HN) u hu).1).1, ((unhide HT).later ((unhide HN) u hu).1).2, Below.cellsAt hu at5⟩)
  have CSh : Hid (∀ u, Below w5.heap.size w5 u → Calls Tryz.prog 14 #[] u fun e u' => e = .returned (.bool true) ∧ Below u.heap.size u u') := hide (fun u hu => shown18 u ((unhide HV) u ((unhide HN) u hu).1).2.2.2.2 ((unhide HV) u ((unhide HN) u hu).1).2.2.2.1)
  obtain ⟨R1, hR1⟩ : ∃ R1, saB ⟨k, t, v, f, ks, p⟩ ⟨k', t', v', f', ks', p'⟩ = R1 := ⟨_, rfl⟩
  obtain ⟨R2, hR2⟩ : ∃ R2, saB ⟨k, t, v, f, ks, p⟩ ⟨k, t, v, f, ks, p⟩ = R2 := ⟨_, rfl⟩
  have CAB : Hid (∀ u, Below w5.heap.size w5 u → Calls Tryz.prog 15 #[.agg #[.int .i64 k, .string t, .int .i64 vk, .int .i64 vn, .string vs, .slice al ll cl, .slice ak lk ck, .bool f, .slice a n cc, .int .i64 p], .agg #[.int .i64 k', .string t', .int .i64 vk', .int .i64 vn', .string vs', .slice al' ll' cl', .slice ak' lk' ck', .bool f', .slice a' n' cc', .int .i64 p']] u fun e u' => e = .returned (.bool R1) ∧ Below u.heap.size u u') := hide (fun u hu => by
    have h := (unhide HV) u ((unhide HN) u hu).1
    have h2 := same_any ⟨k, t, v, f, ks, p⟩ ⟨k', t', v', f', ks', p'⟩ [.int .i64 k, .string t, .int .i64 vk, .int .i64 vn, .string vs, .slice al ll cl, .slice ak lk ck, .bool f, .slice a n cc, .int .i64 p] [.int .i64 k', .string t', .int .i64 vk', .int .i64 vn', .string vs', .slice al' ll' cl', .slice ak' lk' ck', .bool f', .slice a' n' cc', .int .i64 p'] B u h.1 h.2.1 h.2.2.1
    rw [hR1] at h2; exact h2)
  have RAB : Hid (∀ u, Below w5.heap.size w5 u → Calls Tryz.prog 16 #[.agg #[.int .i64 k, .string t, .int .i64 vk, .int .i64 vn, .string vs, .slice al ll cl, .slice ak lk ck, .bool f, .slice a n cc, .int .i64 p], .agg #[.int .i64 k', .string t', .int .i64 vk', .int .i64 vn', .string vs', .slice al' ll' cl', .slice ak' lk' ck', .bool f', .slice a' n' cc', .int .i64 p']] u fun e u' => e = .returned (.bool R1) ∧ Below u.heap.size u u') := hide (fun u hu => by
    have h := (unhide HV) u ((unhide HN) u hu).1
    have h2 := rsame_any ⟨k, t, v, f, ks, p⟩ ⟨k', t', v', f', ks', p'⟩ [.int .i64 k, .string t, .int .i64 vk, .int .i64 vn, .string vs, .slice al ll cl, .slice ak lk ck, .bool f, .slice a n cc, .int .i64 p] [.int .i64 k', .string t', .int .i64 vk', .int .i64 vn', .string vs', .slice al' ll' cl', .slice ak' lk' ck', .bool f', .slice a' n' cc', .int .i64 p'] B u h.1 h.2.1 h.2.2.1
    rw [hR1] at h2; exact h2)
  have CBA : Hid (∀ u, Below w5.heap.size w5 u → Calls Tryz.prog 15 #[.agg #[.int .i64 k', .string t', .int .i64 vk', .int .i64 vn', .string vs', .slice al' ll' cl', .slice ak' lk' ck', .bool f', .slice a' n' cc', .int .i64 p'], .agg #[.int .i64 k, .string t, .int .i64 vk, .int .i64 vn, .string vs, .slice al ll cl, .slice ak lk ck, .bool f, .slice a n cc, .int .i64 p]] u fun e u' => e = .returned (.bool R1) ∧ Below u.heap.size u u') := hide (fun u hu => by
    have h := (unhide HV) u ((unhide HN) u hu).1
    have h2 := same_any ⟨k', t', v', f', ks', p'⟩ ⟨k, t, v, f, ks, p⟩ [.int .i64 k', .string t', .int .i64 vk', .int .i64 vn', .string vs', .slice al' ll' cl', .slice ak' lk' ck', .bool f', .slice a' n' cc', .int .i64 p'] [.int .i64 k, .string t, .int .i64 vk, .int .i64 vn, .string vs, .slice al ll cl, .slice ak lk ck, .bool f, .slice a n cc, .int .i64 p] B u h.2.1 h.1 h.2.2.1
    rw [saB_comm, hR1] at h2; exact h2)
  have RAA : Hid (∀ u, Below w5.heap.size w5 u → Calls Tryz.prog 16 #[.agg #[.int .i64 k, .string t, .int .i64 vk, .int .i64 vn, .string vs, .slice al ll cl, .slice ak lk ck, .bool f, .slice a n cc, .int .i64 p], .agg #[.int .i64 k, .string t, .int .i64 vk, .int .i64 vn, .string vs, .slice al ll cl, .slice ak lk ck, .bool f, .slice a n cc, .int .i64 p]] u fun e u' => e = .returned (.bool R2) ∧ Below u.heap.size u u') := hide (fun u hu => by
    have h := (unhide HV) u ((unhide HN) u hu).1
    have h2 := rsame_any ⟨k, t, v, f, ks, p⟩ ⟨k, t, v, f, ks, p⟩ [.int .i64 k, .string t, .int .i64 vk, .int .i64 vn, .string vs, .slice al ll cl, .slice ak lk ck, .bool f, .slice a n cc, .int .i64 p] [.int .i64 k, .string t, .int .i64 vk, .int .i64 vn, .string vs, .slice al ll cl, .slice ak lk ck, .bool f, .slice a n cc, .int .i64 p] B u h.1 h.1 h.2.2.1
    rw [hR2] at h2; exact h2)
  have CAC : Hid (∀ u, Below w5.heap.size w5 u → Calls Tryz.prog 15 #[.agg #[.int .i64 k, .string t, .int .i64 vk, .int .i64 vn, .string vs, .slice al ll cl, .slice ak lk ck, .bool f, .slice a n cc, .int .i64 p], .agg #[.int .i64 k, .string t, .int .i64 vk5, .int .i64 vn5, .string vs5, .slice al5 ll5 cl5, .slice ak5 lk5 ck5, .bool f, .slice a5 n5 cc5, .int .i64 77]] u fun e u' => e = .returned (.bool R2) ∧ Below u.heap.size u u') := hide (fun u hu => by
    have h := (unhide HV) u ((unhide HN) u hu).1
    have h3 := ((unhide HN) u hu).2
    have hk := IsN.place 77 (by omega) (unhide HK5)
    have h2 := same_any ⟨k, t, v, f, ks, p⟩ ⟨k, t, v, f, ks, 77⟩ [.int .i64 k, .string t, .int .i64 vk, .int .i64 vn, .string vs, .slice al ll cl, .slice ak lk ck, .bool f, .slice a n cc, .int .i64 p] [.int .i64 k, .string t, .int .i64 vk5, .int .i64 vn5, .string vs5, .slice al5 ll5 cl5, .slice ak5 lk5 ck5, .bool f, .slice a5 n5 cc5, .int .i64 77] u.heap.size u (IsN.to (fun _ _ => rfl) (fun b hb => by have := h.2.2.1; omega) h.1) (IsN.to (fun _ _ => rfl) (fun b hb => by have := h3.size; omega) (hk.laterB h3)) (Nat.le_refl _)
    rw [saB_at, hR2] at h2; exact h2)
  clear hR1 hR2 hw5 hH at5 b5 X3 HK5
  have HS0 : Hid (Below w5.heap.size w5 w5.drew) := hide ((Below.refl _ _).drew)
  refine till_begin (S := fun w' => Below w5.heap.size w5 w') 28 (by kernel_rfl) ?_
  obtain ⟨W0, hW0⟩ : ∃ W0, w5.drew = W0 := ⟨_, rfl⟩
  try rw [hW0]
  rw [hW0] at HS0
  clear hW0
  refine till_one 0 (by kernel_rfl) rfl (fun K hK => ?_)
  go_simp
  refine ((unhide CSh) W0 (unhide HS0)).mono ?_
  rintro e W1 ⟨rfl, bb⟩
  have HS1 := hide ((unhide HS0).trans (bb.mono (unhide HS0).size))
  clear bb
  go_wp2_with fail
  refine hK.out _ _ (Or.inr (unhide HS1)) ?_
  clear hK K HS0
  try simp only [Act.put, List.setIfInBounds_toArray, List.set_cons_zero, List.set_cons_succ]
  refine till_one 1 (by kernel_rfl) rfl (fun K hK => ?_)
  go_simp
  refine hK.out _ _ (Or.inr (unhide HS1)) ?_
  clear hK K
  try simp only [Act.put, List.setIfInBounds_toArray, List.set_cons_zero, List.set_cons_succ]
  refine till_take 2 (v := .agg #[.int .i64 k, .string t, .int .i64 vk, .int .i64 vn, .string vs, .slice al ll cl, .slice ak lk ck, .bool f, .slice a n cc, .int .i64 p]) (some 11) rfl rfl rfl (by kernel_rfl) (by kernel_rfl) (by kernel_rfl) (by kernel_rfl) (fun _ _ _ h => h) (Or.inl ⟨by rfl, fun u hu => by obtain ⟨q1, q2, q3⟩ := unhide HC u hu; obtain ⟨x0, x1, x2, x3, x4, x5, x6, x7, x8, x9⟩ := row_ten q1; obtain ⟨y0, y1, y2, y3, y4, y5, y6, y7, y8, y9⟩ := row_ten q2; obtain ⟨z0, z1, z2, z3, z4, z5, z6, z7, z8, z9⟩ := row_ten q3; go_simp⟩) (unhide HS1) ?_
  try simp only [Act.put, List.setIfInBounds_toArray, List.set_cons_zero, List.set_cons_succ]
  refine till_take 3 (v := .agg #[.int .i64 k', .string t', .int .i64 vk', .int .i64 vn', .string vs', .slice al' ll' cl', .slice ak' lk' ck', .bool f', .slice a' n' cc', .int .i64 p']) (some 12) rfl rfl rfl (by kernel_rfl) (by kernel_rfl) (by kernel_rfl) (by kernel_rfl) (fun _ _ _ h => h) (Or.inl ⟨by rfl, fun u hu => by obtain ⟨q1, q2, q3⟩ := unhide HC u hu; obtain ⟨x0, x1, x2, x3, x4, x5, x6, x7, x8, x9⟩ := row_ten q1; obtain ⟨y0, y1, y2, y3, y4, y5, y6, y7, y8, y9⟩ := row_ten q2; obtain ⟨z0, z1, z2, z3, z4, z5, z6, z7, z8, z9⟩ := row_ten q3; go_simp⟩) (unhide HS1) ?_
  try simp only [Act.put, List.setIfInBounds_toArray, List.set_cons_zero, List.set_cons_succ]
  refine till_take 5 (v := .agg #[.int .i64 k, .string t, .int .i64 vk, .int .i64 vn, .string vs, .slice al ll cl, .slice ak lk ck, .bool f, .slice a n cc, .int .i64 p]) (some 14) rfl rfl rfl (by kernel_rfl) (by kernel_rfl) (by kernel_rfl) (by kernel_rfl) (fun _ _ _ h => h) (Or.inl ⟨by rfl, fun u hu => by obtain ⟨q1, q2, q3⟩ := unhide HC u hu; obtain ⟨x0, x1, x2, x3, x4, x5, x6, x7, x8, x9⟩ := row_ten q1; obtain ⟨y0, y1, y2, y3, y4, y5, y6, y7, y8, y9⟩ := row_ten q2; obtain ⟨z0, z1, z2, z3, z4, z5, z6, z7, z8, z9⟩ := row_ten q3; go_simp⟩) (unhide HS1) ?_
  try simp only [Act.put, List.setIfInBounds_toArray, List.set_cons_zero, List.set_cons_succ]
  refine till_take 6 (v := .agg #[.int .i64 k', .string t', .int .i64 vk', .int .i64 vn', .string vs', .slice al' ll' cl', .slice ak' lk' ck', .bool f', .slice a' n' cc', .int .i64 p']) (some 15) rfl rfl rfl (by kernel_rfl) (by kernel_rfl) (by kernel_rfl) (by kernel_rfl) (fun _ _ _ h => h) (Or.inl ⟨by rfl, fun u hu => by obtain ⟨q1, q2, q3⟩ := unhide HC u hu; obtain ⟨x0, x1, x2, x3, x4, x5, x6, x7, x8, x9⟩ := row_ten q1; obtain ⟨y0, y1, y2, y3, y4, y5, y6, y7, y8, y9⟩ := row_ten q2; obtain ⟨z0, z1, z2, z3, z4, z5, z6, z7, z8, z9⟩ := row_ten q3; go_simp⟩) (unhide HS1) ?_
  try simp only [Act.put, List.setIfInBounds_toArray, List.set_cons_zero, List.set_cons_succ]
  refine till_one 4 (by kernel_rfl) rfl (fun K hK => ?_)
  go_simp
  refine ((unhide CAB) W1 (unhide HS1)).mono ?_
  rintro e W2 ⟨rfl, bb⟩
  have HS2 := hide ((unhide HS1).trans (bb.mono (unhide HS1).size))
  clear bb
  go_wp2_with fail
  refine hK.out _ _ (Or.inr (unhide HS2)) ?_
  clear hK K HS1
  try simp only [Act.put, List.setIfInBounds_toArray, List.set_cons_zero, List.set_cons_succ]
  refine till_one 7 (by kernel_rfl) rfl (fun K hK => ?_)
  go_simp
  refine ((unhide RAB) W2 (unhide HS2)).mono ?_
  rintro e W3 ⟨rfl, bb⟩
  have HS3 := hide ((unhide HS2).trans (bb.mono (unhide HS2).size))
  clear bb
  go_wp2_with fail
  refine hK.out _ _ (Or.inr (unhide HS3)) ?_
  clear hK K HS2
  try simp only [Act.put, List.setIfInBounds_toArray, List.set_cons_zero, List.set_cons_succ]
  refine till_one 8 (by kernel_rfl) rfl (fun K hK => ?_)
  go_simp
  refine hK.out _ _ (Or.inr (unhide HS3)) ?_
  clear hK K
  try simp only [Act.put, List.setIfInBounds_toArray, List.set_cons_zero, List.set_cons_succ]
  refine till_one 9 (by kernel_rfl) rfl (fun K hK => ?_)
  go_simp
  refine hK.out _ _ (Or.inr (unhide HS3)) ?_
  clear hK K
  try simp only [Act.put, List.setIfInBounds_toArray, List.set_cons_zero, List.set_cons_succ]
  refine till_one 10 (by kernel_rfl) rfl (fun K hK => ?_)
  go_simp
  refine hK.out _ _ (Or.inr (unhide HS3)) ?_
  clear hK K
  try simp only [Act.put, List.setIfInBounds_toArray, List.set_cons_zero, List.set_cons_succ]
  refine till_take 11 (v := .agg #[.int .i64 k', .string t', .int .i64 vk', .int .i64 vn', .string vs', .slice al' ll' cl', .slice ak' lk' ck', .bool f', .slice a' n' cc', .int .i64 p']) (some 20) rfl rfl rfl (by kernel_rfl) (by kernel_rfl) (by kernel_rfl) (by kernel_rfl) (fun _ _ _ h => h) (Or.inl ⟨by rfl, fun u hu => by obtain ⟨q1, q2, q3⟩ := unhide HC u hu; obtain ⟨x0, x1, x2, x3, x4, x5, x6, x7, x8, x9⟩ := row_ten q1; obtain ⟨y0, y1, y2, y3, y4, y5, y6, y7, y8, y9⟩ := row_ten q2; obtain ⟨z0, z1, z2, z3, z4, z5, z6, z7, z8, z9⟩ := row_ten q3; go_simp⟩) (unhide HS3) ?_
  try simp only [Act.put, List.setIfInBounds_toArray, List.set_cons_zero, List.set_cons_succ]
  refine till_take 12 (v := .agg #[.int .i64 k, .string t, .int .i64 vk, .int .i64 vn, .string vs, .slice al ll cl, .slice ak lk ck, .bool f, .slice a n cc, .int .i64 p]) (some 21) rfl rfl rfl (by kernel_rfl) (by kernel_rfl) (by kernel_rfl) (by kernel_rfl) (fun _ _ _ h => h) (Or.inl ⟨by rfl, fun u hu => by obtain ⟨q1, q2, q3⟩ := unhide HC u hu; obtain ⟨x0, x1, x2, x3, x4, x5, x6, x7, x8, x9⟩ := row_ten q1; obtain ⟨y0, y1, y2, y3, y4, y5, y6, y7, y8, y9⟩ := row_ten q2; obtain ⟨z0, z1, z2, z3, z4, z5, z6, z7, z8, z9⟩ := row_ten q3; go_simp⟩) (unhide HS3) ?_
  try simp only [Act.put, List.setIfInBounds_toArray, List.set_cons_zero, List.set_cons_succ]
  refine till_take 14 (v := .agg #[.int .i64 k, .string t, .int .i64 vk, .int .i64 vn, .string vs, .slice al ll cl, .slice ak lk ck, .bool f, .slice a n cc, .int .i64 p]) (some 23) rfl rfl rfl (by kernel_rfl) (by kernel_rfl) (by kernel_rfl) (by kernel_rfl) (fun _ _ _ h => h) (Or.inl ⟨by rfl, fun u hu => by obtain ⟨q1, q2, q3⟩ := unhide HC u hu; obtain ⟨x0, x1, x2, x3, x4, x5, x6, x7, x8, x9⟩ := row_ten q1; obtain ⟨y0, y1, y2, y3, y4, y5, y6, y7, y8, y9⟩ := row_ten q2; obtain ⟨z0, z1, z2, z3, z4, z5, z6, z7, z8, z9⟩ := row_ten q3; go_simp⟩) (unhide HS3) ?_
  try simp only [Act.put, List.setIfInBounds_toArray, List.set_cons_zero, List.set_cons_succ]
  refine till_take 15 (v := .agg #[.int .i64 k', .string t', .int .i64 vk', .int .i64 vn', .string vs', .slice al' ll' cl', .slice ak' lk' ck', .bool f', .slice a' n' cc', .int .i64 p']) (some 24) rfl rfl rfl (by kernel_rfl) (by kernel_rfl) (by kernel_rfl) (by kernel_rfl) (fun _ _ _ h => h) (Or.inl ⟨by rfl, fun u hu => by obtain ⟨q1, q2, q3⟩ := unhide HC u hu; obtain ⟨x0, x1, x2, x3, x4, x5, x6, x7, x8, x9⟩ := row_ten q1; obtain ⟨y0, y1, y2, y3, y4, y5, y6, y7, y8, y9⟩ := row_ten q2; obtain ⟨z0, z1, z2, z3, z4, z5, z6, z7, z8, z9⟩ := row_ten q3; go_simp⟩) (unhide HS3) ?_
  try simp only [Act.put, List.setIfInBounds_toArray, List.set_cons_zero, List.set_cons_succ]
  refine till_one 13 (by kernel_rfl) rfl (fun K hK => ?_)
  go_simp
  refine ((unhide CBA) W3 (unhide HS3)).mono ?_
  rintro e W4 ⟨rfl, bb⟩
  have HS4 := hide ((unhide HS3).trans (bb.mono (unhide HS3).size))
  clear bb
  go_wp2_with fail
  refine hK.out _ _ (Or.inr (unhide HS4)) ?_
  clear hK K HS3
  try simp only [Act.put, List.setIfInBounds_toArray, List.set_cons_zero, List.set_cons_succ]
  refine till_one 16 (by kernel_rfl) rfl (fun K hK => ?_)
  go_simp
  refine ((unhide RAB) W4 (unhide HS4)).mono ?_
  rintro e W5 ⟨rfl, bb⟩
  have HS5 := hide ((unhide HS4).trans (bb.mono (unhide HS4).size))
  clear bb
  go_wp2_with fail
  refine hK.out _ _ (Or.inr (unhide HS5)) ?_
  clear hK K HS4
  try simp only [Act.put, List.setIfInBounds_toArray, List.set_cons_zero, List.set_cons_succ]
  refine till_one 17 (by kernel_rfl) rfl (fun K hK => ?_)
  go_simp
  refine hK.out _ _ (Or.inr (unhide HS5)) ?_
  clear hK K
  try simp only [Act.put, List.setIfInBounds_toArray, List.set_cons_zero, List.set_cons_succ]
  refine till_one 18 (by kernel_rfl) rfl (fun K hK => ?_)
  go_simp
  refine hK.out _ _ (Or.inr (unhide HS5)) ?_
  clear hK K
  try simp only [Act.put, List.setIfInBounds_toArray, List.set_cons_zero, List.set_cons_succ]
  refine till_one 19 (by kernel_rfl) rfl (fun K hK => ?_)
  go_simp
  refine hK.out _ _ (Or.inr (unhide HS5)) ?_
  clear hK K
  try simp only [Act.put, List.setIfInBounds_toArray, List.set_cons_zero, List.set_cons_succ]
  refine till_take 20 (v := .agg #[.int .i64 k, .string t, .int .i64 vk, .int .i64 vn, .string vs, .slice al ll cl, .slice ak lk ck, .bool f, .slice a n cc, .int .i64 p]) (some 29) rfl rfl rfl (by kernel_rfl) (by kernel_rfl) (by kernel_rfl) (by kernel_rfl) (fun _ _ _ h => h) (Or.inl ⟨by rfl, fun u hu => by obtain ⟨q1, q2, q3⟩ := unhide HC u hu; obtain ⟨x0, x1, x2, x3, x4, x5, x6, x7, x8, x9⟩ := row_ten q1; obtain ⟨y0, y1, y2, y3, y4, y5, y6, y7, y8, y9⟩ := row_ten q2; obtain ⟨z0, z1, z2, z3, z4, z5, z6, z7, z8, z9⟩ := row_ten q3; go_simp⟩) (unhide HS5) ?_
  try simp only [Act.put, List.setIfInBounds_toArray, List.set_cons_zero, List.set_cons_succ]
  refine till_take 21 (v := .agg #[.int .i64 k, .string t, .int .i64 vk5, .int .i64 vn5, .string vs5, .slice al5 ll5 cl5, .slice ak5 lk5 ck5, .bool f, .slice a5 n5 cc5, .int .i64 77]) (some 30) rfl rfl rfl (by kernel_rfl) (by kernel_rfl) (by kernel_rfl) (by kernel_rfl) (fun _ _ _ h => h) (Or.inl ⟨by rfl, fun u hu => by obtain ⟨q1, q2, q3⟩ := unhide HC u hu; obtain ⟨x0, x1, x2, x3, x4, x5, x6, x7, x8, x9⟩ := row_ten q1; obtain ⟨y0, y1, y2, y3, y4, y5, y6, y7, y8, y9⟩ := row_ten q2; obtain ⟨z0, z1, z2, z3, z4, z5, z6, z7, z8, z9⟩ := row_ten q3; go_simp⟩) (unhide HS5) ?_
  try simp only [Act.put, List.setIfInBounds_toArray, List.set_cons_zero, List.set_cons_succ]
  refine till_take 23 (v := .agg #[.int .i64 k, .string t, .int .i64 vk, .int .i64 vn, .string vs, .slice al ll cl, .slice ak lk ck, .bool f, .slice a n cc, .int .i64 p]) (some 32) rfl rfl rfl (by kernel_rfl) (by kernel_rfl) (by kernel_rfl) (by kernel_rfl) (fun _ _ _ h => h) (Or.inl ⟨by rfl, fun u hu => by obtain ⟨q1, q2, q3⟩ := unhide HC u hu; obtain ⟨x0, x1, x2, x3, x4, x5, x6, x7, x8, x9⟩ := row_ten q1; obtain ⟨y0, y1, y2, y3, y4, y5, y6, y7, y8, y9⟩ := row_ten q2; obtain ⟨z0, z1, z2, z3, z4, z5, z6, z7, z8, z9⟩ := row_ten q3; go_simp⟩) (unhide HS5) ?_
  try simp only [Act.put, List.setIfInBounds_toArray, List.set_cons_zero, List.set_cons_succ]
  refine till_take 24 (v := .agg #[.int .i64 k, .string t, .int .i64 vk, .int .i64 vn, .string vs, .slice al ll cl, .slice ak lk ck, .bool f, .slice a n cc, .int .i64 p]) (some 33) rfl rfl rfl (by kernel_rfl) (by kernel_rfl) (by kernel_rfl) (by kernel_rfl) (fun _ _ _ h => h) (Or.inl ⟨by rfl, fun u hu => by obtain ⟨q1, q2, q3⟩ := unhide HC u hu; obtain ⟨x0, x1, x2, x3, x4, x5, x6, x7, x8, x9⟩ := row_ten q1; obtain ⟨y0, y1, y2, y3, y4, y5, y6, y7, y8, y9⟩ := row_ten q2; obtain ⟨z0, z1, z2, z3, z4, z5, z6, z7, z8, z9⟩ := row_ten q3; go_simp⟩) (unhide HS5) ?_
  try simp only [Act.put, List.setIfInBounds_toArray, List.set_cons_zero, List.set_cons_succ]
  refine till_one 22 (by kernel_rfl) rfl (fun K hK => ?_)
  go_simp
  refine ((unhide CAC) W5 (unhide HS5)).mono ?_
  rintro e W6 ⟨rfl, bb⟩
  have HS6 := hide ((unhide HS5).trans (bb.mono (unhide HS5).size))
  clear bb
  go_wp2_with fail
  refine hK.out _ _ (Or.inr (unhide HS6)) ?_
  clear hK K HS5
  try simp only [Act.put, List.setIfInBounds_toArray, List.set_cons_zero, List.set_cons_succ]
  refine till_one 25 (by kernel_rfl) rfl (fun K hK => ?_)
  go_simp
  refine ((unhide RAA) W6 (unhide HS6)).mono ?_
  rintro e W7 ⟨rfl, bb⟩
  have HS7 := hide ((unhide HS6).trans (bb.mono (unhide HS6).size))
  clear bb
  go_wp2_with fail
  refine hK.out _ _ (Or.inr (unhide HS7)) ?_
  clear hK K HS6
  try simp only [Act.put, List.setIfInBounds_toArray, List.set_cons_zero, List.set_cons_succ]
  refine till_one 26 (by kernel_rfl) rfl (fun K hK => ?_)
  go_simp
  refine hK.out _ _ (Or.inr (unhide HS7)) ?_
  clear hK K
  try simp only [Act.put, List.setIfInBounds_toArray, List.set_cons_zero, List.set_cons_succ]
  refine till_one 27 (by kernel_rfl) rfl (fun K hK => ?_)
  go_simp
  refine hK.out _ _ (Or.inr (unhide HS7)) ?_
  clear hK K
  try simp only [Act.put, List.setIfInBounds_toArray, List.set_cons_zero, List.set_cons_succ]
  refine till_one 28 (by kernel_rfl) rfl (fun K hK => ?_)
  go_simp
  refine hK.out _ _ (Or.inl (by first | rfl | trivial)) ?_
  clear hK K
  try simp only [Act.put, List.setIfInBounds_toArray, List.set_cons_zero, List.set_cons_succ]
  refine till_done (by kernel_rfl) ?_ _
  go_wp2_with fail
  go_ret
  exact ⟨rfl, (unhide HBW) _ (unhide HS7)⟩
end Go.Proofs.YtjkfkneibcjgaaaGreatDoor
