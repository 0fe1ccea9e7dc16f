/-
  The walk of Compare; no conditions but the form's own reach.
  The walk of the document's order: two right values, one step of the recursion more; no conditions but the form's own reach.
-/
import Derived.Test.YtlmgiimgmjbkeaaA17
import Derived.Test.YtlmgiimgmjbkeaaA03
set_option linter.unusedVariables false
set_option linter.unusedSimpArgs false
namespace Go.Proofs.Ytlmgiimgmjbkeaa
open Go.RowKit

def ord0 (v v' : Vl) : Int := if (rightB v && rightB v') = true then ord v v' else 0

theorem ord0_self (v : Vl) : ord0 v v = 0 := by unfold ord0; split <;> simp [ord_self]

theorem right_ok {v : Vl} (h : rightB v = true) : okB 8 v = true := by
  unfold rightB at h
  rw [Bool.and_eq_true] at h
  exact h.1

set_option maxRecDepth 100000 in
set_option maxHeartbeats 400000 in
theorem compare_code (v v' : Vl) (x x' : Value) (B : Nat) (w : World) (hv : IsV w B v x) (hv' : IsV w B v' x') (hBs : B ≤ w.heap.size) :
    Calls Try.prog 24 #[x, x'] w fun e w' => e = .returned (.int .i64 (ord0 v v')) ∧ Below w.heap.size w w' := by
  obtain ⟨k, n, s, l, ks, al, ak, cl, ck, _, hx⟩ := hv.shape
  obtain ⟨k', n', s', l', ks', al', ak', cl', ck', _, hx'⟩ := hv'.shape
  obtain ⟨m, hm⟩ : ∃ m, ks.length = m := ⟨_, rfl⟩
  obtain ⟨ln, hln⟩ : ∃ ln, l.length = ln := ⟨_, rfl⟩
  obtain ⟨m', hm'⟩ : ∃ m', ks'.length = m' := ⟨_, rfl⟩
  obtain ⟨ln', hln'⟩ : ∃ ln', l'.length = ln' := ⟨_, rfl⟩
  rw [hm, hln] at hx
  rw [hm', hln'] at hx'
  subst hx
  subst hx'
  have TW := TwoO.mk' w 34 #[.int .i64 k, .int .i64 n, .string s, .slice al ln cl, .slice ak m ck] #[.int .i64 k', .int .i64 n', .string s', .slice al' ln' cl', .slice ak' m' ck']
  obtain ⟨w2, hw2⟩ : ∃ w2, (w.alloc (.cells #[.int .i64 k, .int .i64 n, .string s, .slice al ln cl, .slice ak m ck] 34)).alloc (.cells #[.int .i64 k', .int .i64 n', .string s', .slice al' ln' cl', .slice ak' m' ck'] 34) = w2 := ⟨_, rfl⟩
  rw [hw2] at TW
  obtain ⟨g, hg⟩ : ∃ g, w.heap.size = g := ⟨_, rfl⟩
  rw [hg] at TW
  have HT := hide TW
  have HV : Hid (∀ u, Below w2.heap.size w2 u → IsV u B v (.agg #[.int .i64 k, .int .i64 n, .string s, .slice al ln cl, .slice ak m ck]) ∧ IsV u B v' (.agg #[.int .i64 k', .int .i64 n', .string s', .slice al' ln' cl', .slice ak' m' ck']) ∧ B ≤ u.heap.size) :=
    hide (fun u hu => by
      have h1 : Below B w u := (TW.below.mono (by omega)).trans (hu.mono (by have := TW.size; omega))
      exact ⟨hv.mono h1, hv'.mono h1, by have := hu.size; have := TW.size; omega⟩)
  have HB : Hid (∀ u, Below w2.heap.size w2 u → Below w.heap.size w u) := hide (fun u hu => TW.below.trans (hu.mono (by have := TW.size; omega)))
  clear TW hv hv' hm hln hm' hln'
  have CR := fun u hu => hide (right_code v _ B u (unhide HV u hu).1 (unhide HV u hu).2.2)
  have CR' := fun u hu => hide (right_code v' _ B u (unhide HV u hu).2.1 (unhide HV u hu).2.2)
  have CO := fun h h' u hu => hide (order_any 8 v v' _ _ B u (right_ok h) (right_ok h') (unhide HV u hu).1 (unhide HV u hu).2.1 (unhide HV u hu).2.2)
  have X0 : Hid (Below w2.heap.size w2 w2) := hide (Below.refl _ _)
  obtain ⟨r0, r1⟩ := (unhide HT).later (unhide X0)
  obtain ⟨c0, c1, c2, c3, c4⟩ := row_cell r0
  obtain ⟨d0, d1, d2, d3, d4⟩ := row_cell r1
  clear r0 r1
  cases hR : rightB v with
  | false =>
    have HG : Hid (ord0 v v' = 0) := hide (by simp [ord0, hR])
    rw [hR] at CR
    clear hR CO
    go_enter Try.func24, Try.ntmps24
    go_wp2_with fail
    refine (unhide (CR w2 (unhide X0))).mono ?_
    rintro e u1 ⟨rfl, b1⟩
    have X1 : Hid (Below w2.heap.size w2 u1) := hide b1
    clear b1 CR
    go_wp2_with fail
    go_ret
    exact ⟨by rw [unhide HG]; rfl, by first | exact unhide HB _ (unhide X1) | (rw [← hg]; exact unhide HB _ (unhide X1))⟩
  | true =>
    rw [hR] at CR
    cases hR' : rightB v' with
    | false =>
      have HG : Hid (ord0 v v' = 0) := hide (by simp [ord0, hR'])
      rw [hR'] at CR'
      clear hR hR' CO
      go_enter Try.func24, Try.ntmps24
      go_wp2_with fail
      refine (unhide (CR w2 (unhide X0))).mono ?_
      rintro e u1 ⟨rfl, b1⟩
      have X1 : Hid (Below w2.heap.size w2 u1) := hide ((unhide X0).trans (b1.mono (unhide X0).size))
      clear c0 c1 c2 c3 c4 d0 d1 d2 d3 d4
      obtain ⟨r0, r1⟩ := (unhide HT).later (unhide X1)
      obtain ⟨c0, c1, c2, c3, c4⟩ := row_cell r0
      obtain ⟨d0, d1, d2, d3, d4⟩ := row_cell r1
      clear r0 r1
      clear b1
      go_wp2_with fail
      refine (unhide (CR' u1 (unhide X1))).mono ?_
      rintro e u2 ⟨rfl, b2⟩
      have X2 : Hid (Below w2.heap.size w2 u2) := hide ((unhide X1).trans (b2.mono (unhide X1).size))
      clear c0 c1 c2 c3 c4 d0 d1 d2 d3 d4
      obtain ⟨r0, r1⟩ := (unhide HT).later (unhide X2)
      obtain ⟨c0, c1, c2, c3, c4⟩ := row_cell r0
      obtain ⟨d0, d1, d2, d3, d4⟩ := row_cell r1
      clear r0 r1
      clear b2
      go_wp2_with fail
      go_ret
      exact ⟨by rw [unhide HG]; rfl, by first | exact unhide HB _ (unhide X2) | (rw [← hg]; exact unhide HB _ (unhide X2))⟩
    | true =>
      have HG : Hid (ord0 v v' = ord v v') := hide (by simp [ord0, hR, hR'])
      rw [hR'] at CR'
      have C3 := CO hR hR'
      obtain ⟨R, hRR⟩ : ∃ R, ord v v' = R := ⟨_, rfl⟩
      rw [hRR] at C3 HG
      clear hR hR' CO hRR
      go_enter Try.func24, Try.ntmps24
      go_wp2_with fail
      refine (unhide (CR w2 (unhide X0))).mono ?_
      rintro e u1 ⟨rfl, b1⟩
      have X1 : Hid (Below w2.heap.size w2 u1) := hide ((unhide X0).trans (b1.mono (unhide X0).size))
      clear c0 c1 c2 c3 c4 d0 d1 d2 d3 d4
      obtain ⟨r0, r1⟩ := (unhide HT).later (unhide X1)
      obtain ⟨c0, c1, c2, c3, c4⟩ := row_cell r0
      obtain ⟨d0, d1, d2, d3, d4⟩ := row_cell r1
      clear r0 r1
      clear b1
      go_wp2_with fail
      refine (unhide (CR' u1 (unhide X1))).mono ?_
      rintro e u2 ⟨rfl, b2⟩
      have X2 : Hid (Below w2.heap.size w2 u2) := hide ((unhide X1).trans (b2.mono (unhide X1).size))
      clear c0 c1 c2 c3 c4 d0 d1 d2 d3 d4
      obtain ⟨r0, r1⟩ := (unhide HT).later (unhide X2)
      obtain ⟨c0, c1, c2, c3, c4⟩ := row_cell r0
      obtain ⟨d0, d1, d2, d3, d4⟩ := row_cell r1
      clear r0 r1
      clear b2
      go_wp2_with fail
      refine (unhide (C3 u2 (unhide X2))).mono ?_
      rintro e u3 ⟨rfl, b3⟩
      have X3 : Hid (Below w2.heap.size w2 u3) := hide ((unhide X2).trans (b3.mono (unhide X2).size))
      clear c0 c1 c2 c3 c4 d0 d1 d2 d3 d4
      obtain ⟨r0, r1⟩ := (unhide HT).later (unhide X3)
      obtain ⟨c0, c1, c2, c3, c4⟩ := row_cell r0
      obtain ⟨d0, d1, d2, d3, d4⟩ := row_cell r1
      clear r0 r1
      clear b3
      go_wp2_with fail
      go_ret
      exact ⟨by rw [unhide HG]; rfl, by first | exact unhide HB _ (unhide X3) | (rw [← hg]; exact unhide HB _ (unhide X3))⟩
end Go.Proofs.Ytlmgiimgmjbkeaa

namespace Go.Proofs.Ytlmgiimgmjbkeaa
open Go.RowKit

def ROrderAt (b : Nat) : Prop := ∀ (v v' : Vl) (x x' : Value) (B : Nat) (w : World), okB b v = true → okB b v' = true → IsV w B v x → IsV w B v' x' → B ≤ w.heap.size →
    Calls Try.prog 50 #[x, x'] w fun e w' => e = .returned (.int .i64 (ord v v')) ∧ Below w.heap.size w w'

theorem rorder_zero : ROrderAt 0 := by
  intro v v' x x' B w h
  cases v
  simp [okB] at h

set_option maxRecDepth 100000 in
set_option maxHeartbeats 1000000 in
theorem rorder_step (b : Nat) (ih : ROrderAt b) : ROrderAt (b + 1) := by
  intro v v' x x' B w ho ho' hv hv' hBs
  obtain ⟨k, n, s, l, ks, al, ak, cl, ck, rfl, rfl⟩ := hv.shape
  obtain ⟨k', n', s', l', ks', al', ak', cl', ck', rfl, rfl⟩ := hv'.shape
  obtain ⟨m, hm⟩ : ∃ m, ks.length = m := ⟨_, rfl⟩
  obtain ⟨ln, hln⟩ : ∃ ln, l.length = ln := ⟨_, rfl⟩
  obtain ⟨m', hm'⟩ : ∃ m', ks'.length = m' := ⟨_, rfl⟩
  obtain ⟨ln', hln'⟩ : ∃ ln', l'.length = ln' := ⟨_, rfl⟩
  rw [hm, hln] at hv
  rw [hm', hln'] at hv'
  rw [hm, hln, hm', hln']
  simp only [okB, Bool.and_eq_true] at ho ho'
  have hb1 : ln ≤ 140737488351232 ∧ ln' ≤ 140737488351232 := by
    obtain ⟨_, _, _, h1, h2, V, hf, _⟩ := IsP.at hv
    obtain ⟨_, _, _, h1', h2', V', hf', _⟩ := IsP.at hv'
    have := hf.bl
    have := hf'.bl
    omega
  obtain ⟨hlb, hlb'⟩ := hb1
  have TW := TwoO.mk' w 34 #[.int .i64 k, .int .i64 n, .string s, .slice al ln cl, .slice ak m ck] #[.int .i64 k', .int .i64 n', .string s', .slice al' ln' cl', .slice ak' m' ck']
  obtain ⟨w2, hw2⟩ : ∃ w2, (w.alloc (.cells #[.int .i64 k, .int .i64 n, .string s, .slice al ln cl, .slice ak m ck] 34)).alloc (.cells #[.int .i64 k', .int .i64 n', .string s', .slice al' ln' cl', .slice ak' m' ck'] 34) = w2 := ⟨_, rfl⟩
  rw [hw2] at TW
  obtain ⟨g, hg⟩ : ∃ g, w.heap.size = g := ⟨_, rfl⟩
  rw [hg] at TW
  have HT := hide TW
  have HV : Hid (∀ u, Below w2.heap.size w2 u → IsV u B (.mk k n s l ks) (.agg #[.int .i64 k, .int .i64 n, .string s, .slice al ln cl, .slice ak m ck]) ∧ IsV u B (.mk k' n' s' l' ks') (.agg #[.int .i64 k', .int .i64 n', .string s', .slice al' ln' cl', .slice ak' m' ck'])) :=
    hide (fun u hu => by
      have h1 : Below B w u := (TW.below.mono (by omega)).trans (hu.mono (by have := TW.size; omega))
      exact ⟨hv.mono h1, hv'.mono h1⟩)
  have HB : Hid (Below w.heap.size w w2) := hide TW.below
  obtain ⟨c0, c1, c2, c3, c4⟩ := row_cell TW.at0
  obtain ⟨d0, d1, d2, d3, d4⟩ := row_cell TW.at1
  have HL := hide (And.intro hm (And.intro hln (And.intro hm' hln')))
  have HO := hide (And.intro ho ho')
  clear TW hv hv' ho ho' hm hln hm' hln'
  rcases (show k < k' ∨ k' < k ∨ k = k' by omega) with h1 | h1 | h1
  · have HG : Hid (ord (.mk k n s l ks) (.mk k' n' s' l' ks') = -1) := hide (by simp [ord, cmpI, h1])
    go_enter Try.func50, Try.ntmps50
    go_wp2_with fail
    go_ret
    exact ⟨by rw [unhide HG]; rfl, by first | exact unhide HB | (rw [← hg]; exact unhide HB)⟩
  · have h0 : ¬ k < k' := by omega
    have h0' : (k == k') = false := by simpa using (by omega : ¬ k = k')
    have HG : Hid (ord (.mk k n s l ks) (.mk k' n' s' l' ks') = 1) := hide (by simp [ord, cmpI, h1, h0])
    go_enter Try.func50, Try.ntmps50
    go_wp2_with fail
    go_ret
    exact ⟨by rw [unhide HG]; rfl, by first | exact unhide HB | (rw [← hg]; exact unhide HB)⟩
  · subst h1
    rcases (show n < n' ∨ n' < n ∨ n = n' by omega) with h2 | h2 | h2
    · have HG : Hid (ord (.mk k n s l ks) (.mk k n' s' l' ks') = -1) := hide (by simp [ord, cmpI, h2])
      go_enter Try.func50, Try.ntmps50
      go_wp2_with fail
      go_ret
      exact ⟨by rw [unhide HG]; rfl, by first | exact unhide HB | (rw [← hg]; exact unhide HB)⟩
    · have h0 : ¬ n < n' := by omega
      have HG : Hid (ord (.mk k n s l ks) (.mk k n' s' l' ks') = 1) := hide (by simp [ord, cmpI, h2, h0])
      go_enter Try.func50, Try.ntmps50
      go_wp2_with fail
      go_ret
      exact ⟨by rw [unhide HG]; rfl, by first | exact unhide HB | (rw [← hg]; exact unhide HB)⟩
    · subst h2
      obtain ⟨Z, hZ⟩ : ∃ Z, ord (.mk k n s l ks) (.mk k n s' l' ks') = Z := ⟨_, rfl⟩
      have HG : Hid (Z = if cmpS s s' ≠ 0 then cmpS s s' else ordL (decide (k = 5)) l ks l' ks') := hide (by rw [← hZ]; simp [ord, cmpI])
      have C3 := hide (texts_any s s' w2)
      obtain ⟨M, hM⟩ : ∃ M, min ln ln' = M := ⟨_, rfl⟩
      have HM := hide hM
      obtain ⟨T, hT⟩ : ∃ T, cmpS s s' = T := ⟨_, rfl⟩
      rw [hT] at C3 HG
      rw [hZ]
      clear hM hT hZ
      go_enter Try.func50, Try.ntmps50
      go_wp2_with fail
      refine (unhide C3).mono ?_
      rintro e w2 ⟨rfl, rfl⟩
      clear C3
      go_wp2_with fail
      clear c0 c1 c2 c3 c4 d0 d1 d2 d3 d4
      go_loopw [5, 6] (fun y x wr => ∃ (i : Nat) (c : Int), i ≤ M ∧ x = .int .i64 i ∧ y = .int .i64 c ∧ Hid (Below w2.heap.size w2 wr) ∧ Hid (Z = if c ≠ 0 then c else ordL (decide (k = 5)) (l.drop i) (ks.drop i) (l'.drop i) (ks'.drop i))) (fun _ x _ => M - (intOf x).toNat)
      case atStart => exact ⟨0, T, Nat.zero_le _, rfl, rfl, hide (Below.refl _ _), HG⟩
      case round =>
        obtain ⟨i, c, hi, rfl, rfl, HX, HR⟩ := hrel
        obtain ⟨r0, r1⟩ := (unhide HT).later (unhide HX)
        obtain ⟨c0, c1, c2, c3, c4⟩ := row_cell r0
        obtain ⟨d0, d1, d2, d3, d4⟩ := row_cell r1
        clear r0 r1
        by_cases hc : c = 0
        · subst hc
          by_cases hlt : i < M
          · have hMl : M ≤ ln ∧ M ≤ ln' := by have := unhide HM; omega
            have i2 : (i : Int) < (ln : Int) := by omega
            have i3 : (i : Int) < (ln' : Int) := by omega
            obtain ⟨v1, v2⟩ := unhide HV wr (unhide HX)
            obtain ⟨y, hy⟩ : ∃ y, l[i]? = some y := ⟨_, List.getElem?_eq_getElem (by have := (unhide HL).2.1; omega)⟩
            obtain ⟨y', hy'⟩ : ∃ y', l'[i]? = some y' := ⟨_, List.getElem?_eq_getElem (by have := (unhide HL).2.2.2; omega)⟩
            have hos := ordL_step (decide (k = 5)) l l' ks ks' i y y' hy hy'
            have HS := hide hos
            have HY := hide (And.intro hy hy')
            have HVV := hide (And.intro v1 v2)
            have hBr : B ≤ wr.heap.size := by have := (unhide HX).size; have := (unhide HT).size; omega
            clear hos hy hy' v1 v2 hMl
            by_cases h5 : k = 5
            · subst h5
              have hmm : m = ln ∧ m' = ln' := by
                have h1 := form_rec (unhide HO).1.1 rfl
                have h2 := form_rec (unhide HO).2.1 rfl
                obtain ⟨e1, e2, e3, e4⟩ := unhide HL
                omega
              obtain ⟨rfl, rfl⟩ := hmm
              obtain ⟨tk, htk⟩ : ∃ tk, ks[i]? = some tk := ⟨_, List.getElem?_eq_getElem (by have := (unhide HL).1; omega)⟩
              obtain ⟨tk', htk'⟩ : ∃ tk', ks'[i]? = some tk' := ⟨_, List.getElem?_eq_getElem (by have := (unhide HL).2.2.1; omega)⟩
              obtain ⟨a2, rfl⟩ : ∃ a2, ak = some a2 := by
                cases ak with
                | none => have h1 := (unhide HVV).1.keys.1.none rfl; have h2 := (unhide HL).1; omega
                | some a2 => exact ⟨a2, rfl⟩
              obtain ⟨a2', rfl⟩ : ∃ a2', ak' = some a2' := by
                cases ak' with
                | none => have h1 := (unhide HVV).2.keys.1.none rfl; have h2 := (unhide HL).2.2.1; omega
                | some a2 => exact ⟨a2, rfl⟩
              have cK := (unhide HVV).1.keys.1.cell a2 rfl i tk htk
              have cK' := (unhide HVV).2.keys.1.cell a2' rfl i tk' htk'
              have e1 : ks.getD i ⟨#[]⟩ = tk := by simp [List.getD, htk]
              have e2 : ks'.getD i ⟨#[]⟩ = tk' := by simp [List.getD, htk']
              have hs := unhide HS
              rw [e1, e2] at hs
              obtain ⟨TK, hTK⟩ : ∃ TK, cmpS tk tk' = TK := ⟨_, rfl⟩
              rw [hTK] at hs
              have HS3 := hide hs
              have HTK := hide hTK
              have k5 : ((5 : Int) == 5) = true := by decide
              clear e1 e2 hs htk htk' HS hTK
              go_upto_region 10 with fail
              go_cut [5] from 52 to 96 (fun r wx => r = .int .i64 TK ∧ Hid (Below w2.heap.size w2 wx))
              case first =>
                go_quiet ((go_at_call 65; exact Calls.quiet_of_same (texts_any _ _ _)))
                go_wp2_with fail
                go_meet
                exact ⟨by rw [← unhide HTK], hide (below_drewO (unhide HX) _)⟩
              case rest =>
                clear cK cK'
                obtain ⟨rfl, HXc⟩ := hcut
                have HVc := hide (unhide HV wc (unhide HXc))
                clear c0 c1 c2 c3 c4 d0 d1 d2 d3 d4 HVV
                obtain ⟨r0, r1⟩ := (unhide HT).later (unhide HXc)
                obtain ⟨c0, c1, c2, c3, c4⟩ := row_cell r0
                obtain ⟨d0, d1, d2, d3, d4⟩ := row_cell r1
                clear r0 r1 HX
                by_cases hTK0 : TK = 0
                · subst hTK0
                  have HS2 : Hid (ordL true (l.drop i) (ks.drop i) (l'.drop i) (ks'.drop i) = if ord y y' ≠ 0 then ord y y' else ordL true (l.drop (i + 1)) (ks.drop (i + 1)) (l'.drop (i + 1)) (ks'.drop (i + 1))) := hide (by
                    have h := unhide HS3
                    simp only [decide_true, ne_eq, not_true_eq_false, and_false, if_false] at h
                    exact h)
                  obtain ⟨a, y0, y1, y2, bl, bk, ll', mm, cl1, ck1, rfl, hab, hce, hve⟩ := (unhide HVc).1.elem i y (unhide HY).1
                  obtain ⟨a', z0, z1, z2, bl', bk', zl', zm, cl2, ck2, rfl, hab', hce', hve'⟩ := (unhide HVc).2.elem i y' (unhide HY).2
                  have e0 : wc.cell? (a.add (i * 5)) = some (.int .i64 y0) := hce 0 _ rfl
                  have e1 : wc.cell? ⟨(a.add (i * 5)).block, (a.add (i * 5)).off + 1, none⟩ = some (.int .i64 y1) := hce 1 _ rfl
                  have e2 : wc.cell? ⟨(a.add (i * 5)).block, (a.add (i * 5)).off + 2, none⟩ = some (.string y2) := hce 2 _ rfl
                  have e3 : wc.cell? ⟨(a.add (i * 5)).block, (a.add (i * 5)).off + 3, none⟩ = some (.slice bl ll' cl1) := hce 3 _ rfl
                  have e4 : wc.cell? ⟨(a.add (i * 5)).block, (a.add (i * 5)).off + 4, none⟩ = some (.slice bk mm ck1) := hce 4 _ rfl
                  have f0 : wc.cell? (a'.add (i * 5)) = some (.int .i64 z0) := hce' 0 _ rfl
                  have f1 : wc.cell? ⟨(a'.add (i * 5)).block, (a'.add (i * 5)).off + 1, none⟩ = some (.int .i64 z1) := hce' 1 _ rfl
                  have f2 : wc.cell? ⟨(a'.add (i * 5)).block, (a'.add (i * 5)).off + 2, none⟩ = some (.string z2) := hce' 2 _ rfl
                  have f3 : wc.cell? ⟨(a'.add (i * 5)).block, (a'.add (i * 5)).off + 3, none⟩ = some (.slice bl' zl' cl2) := hce' 3 _ rfl
                  have f4 : wc.cell? ⟨(a'.add (i * 5)).block, (a'.add (i * 5)).off + 4, none⟩ = some (.slice bk' zm ck2) := hce' 4 _ rfl
                  have hBc : B ≤ wc.heap.size := by have := (unhide HXc).size; have := (unhide HT).size; omega
                  have hdr : Below wc.heap.size wc wc.drew := (Below.refl _ _).drew
                  have CR := hide (ih y y' _ _ B wc.drew (okL_all _ _ (unhide HO).1.2 y (List.mem_of_getElem? (unhide HY).1)) (okL_all _ _ (unhide HO).2.2 y' (List.mem_of_getElem? (unhide HY).2)) (hve.mono (hdr.mono hBc)) (hve'.mono (hdr.mono hBc)) (by have := hdr.size; omega))
                  obtain ⟨R, hR⟩ : ∃ R, ord y y' = R := ⟨_, rfl⟩
                  rw [hR] at CR
                  have HRR := hide hR
                  clear hR hce hce' hve hve' hdr
                  go_upto_region 12 with fail
                  go_region_held3 (fun w' => w'.cell? ⟨g, 3, none⟩ = some (.slice (some a) m cl) ∧ w'.cell? ⟨g + 1, 3, none⟩ = some (.slice (some a') m' cl') ∧
                      w'.cell? (a.add (i * 5)) = some (.int .i64 y0) ∧ w'.cell? ⟨(a.add (i * 5)).block, (a.add (i * 5)).off + 1, none⟩ = some (.int .i64 y1) ∧ w'.cell? ⟨(a.add (i * 5)).block, (a.add (i * 5)).off + 2, none⟩ = some (.string y2) ∧ w'.cell? ⟨(a.add (i * 5)).block, (a.add (i * 5)).off + 3, none⟩ = some (.slice bl ll' cl1) ∧ w'.cell? ⟨(a.add (i * 5)).block, (a.add (i * 5)).off + 4, none⟩ = some (.slice bk mm ck1) ∧
                      w'.cell? (a'.add (i * 5)) = some (.int .i64 z0) ∧ w'.cell? ⟨(a'.add (i * 5)).block, (a'.add (i * 5)).off + 1, none⟩ = some (.int .i64 z1) ∧ w'.cell? ⟨(a'.add (i * 5)).block, (a'.add (i * 5)).off + 2, none⟩ = some (.string z2) ∧ w'.cell? ⟨(a'.add (i * 5)).block, (a'.add (i * 5)).off + 3, none⟩ = some (.slice bl' zl' cl2) ∧ w'.cell? ⟨(a'.add (i * 5)).block, (a'.add (i * 5)).off + 4, none⟩ = some (.slice bk' zm ck2))
                    (first | go_keep | (have hb6 := below_drew_of' b5; exact ⟨cell_later hb6 c3, cell_later hb6 d3, cell_later hb6 e0, cell_later hb6 e1, cell_later hb6 e2, cell_later hb6 e3, cell_later hb6 e4, cell_later hb6 f0, cell_later hb6 f1, cell_later hb6 f2, cell_later hb6 f3, cell_later hb6 f4⟩))
                    (first | (go_at_call 50; refine (unhide CR).mono ?_; rintro e w5 ⟨rfl, b5⟩))
                  have HX5 : Hid (Below w2.heap.size w2 w5) := hide ((unhide HXc).trans ((below_drew_of' b5).mono (unhide HXc).size))
                  clear b5 CR
                  clear c0 c1 c2 c3 c4 d0 d1 d2 d3 d4 e0 e1 e2 e3 e4 f0 f1 f2 f3 f4 HVc HXc
                  have HR' : Hid (Z = if R ≠ 0 then R else ordL (decide ((5 : Int) = 5)) (l.drop (i + 1)) (ks.drop (i + 1)) (l'.drop (i + 1)) (ks'.drop (i + 1))) := hide (by have h := unhide HS2; rw [unhide HR]; simp only [decide_true] at h ⊢; rw [if_neg (by simp), h, unhide HRR])
                  have HI1 : Hid (i + 1 ≤ M) := hide (by omega)
                  go_wp2_with fail
                  go_roundw
                  case rel => exact ⟨i + 1, R, unhide HI1, by go_num, rfl, HX5, HR'⟩
                  case measure => have := unhide HI1; simp [intOf]; omega
                · have hb0 : (TK == 0) = false := by simpa using hTK0
                  have HR' : Hid (Z = if TK ≠ 0 then TK else ordL (decide ((5 : Int) = 5)) (l.drop (i + 1)) (ks.drop (i + 1)) (l'.drop (i + 1)) (ks'.drop (i + 1))) := hide (by rw [unhide HR, if_neg (by simp), unhide HS3, if_pos hTK0, if_pos ⟨by simp, hTK0⟩])
                  have HI1 : Hid (i + 1 ≤ M) := hide (by omega)
                  clear hTK0
                  go_wp2_with fail
                  go_roundw
                  case rel => exact ⟨i + 1, TK, unhide HI1, by go_num, rfl, HXc, HR'⟩
                  case measure => have := unhide HI1; simp [intOf]; omega
            · have k5 : (k == (5 : Int)) = false := by simpa using h5
              have hs := unhide HS
              rw [decide_eq_false h5] at hs
              simp only [Bool.false_eq_true, false_and, if_false] at hs
              have HS2 := hide hs
              have HXc := HX
              clear hs HS HX
              have HVc := HVV
              clear HVV
              obtain ⟨a, y0, y1, y2, bl, bk, ll', mm, cl1, ck1, rfl, hab, hce, hve⟩ := (unhide HVc).1.elem i y (unhide HY).1
              obtain ⟨a', z0, z1, z2, bl', bk', zl', zm, cl2, ck2, rfl, hab', hce', hve'⟩ := (unhide HVc).2.elem i y' (unhide HY).2
              have e0 : wr.cell? (a.add (i * 5)) = some (.int .i64 y0) := hce 0 _ rfl
              have e1 : wr.cell? ⟨(a.add (i * 5)).block, (a.add (i * 5)).off + 1, none⟩ = some (.int .i64 y1) := hce 1 _ rfl
              have e2 : wr.cell? ⟨(a.add (i * 5)).block, (a.add (i * 5)).off + 2, none⟩ = some (.string y2) := hce 2 _ rfl
              have e3 : wr.cell? ⟨(a.add (i * 5)).block, (a.add (i * 5)).off + 3, none⟩ = some (.slice bl ll' cl1) := hce 3 _ rfl
              have e4 : wr.cell? ⟨(a.add (i * 5)).block, (a.add (i * 5)).off + 4, none⟩ = some (.slice bk mm ck1) := hce 4 _ rfl
              have f0 : wr.cell? (a'.add (i * 5)) = some (.int .i64 z0) := hce' 0 _ rfl
              have f1 : wr.cell? ⟨(a'.add (i * 5)).block, (a'.add (i * 5)).off + 1, none⟩ = some (.int .i64 z1) := hce' 1 _ rfl
              have f2 : wr.cell? ⟨(a'.add (i * 5)).block, (a'.add (i * 5)).off + 2, none⟩ = some (.string z2) := hce' 2 _ rfl
              have f3 : wr.cell? ⟨(a'.add (i * 5)).block, (a'.add (i * 5)).off + 3, none⟩ = some (.slice bl' zl' cl2) := hce' 3 _ rfl
              have f4 : wr.cell? ⟨(a'.add (i * 5)).block, (a'.add (i * 5)).off + 4, none⟩ = some (.slice bk' zm ck2) := hce' 4 _ rfl
              have hBc : B ≤ wr.heap.size := by have := (unhide HXc).size; have := (unhide HT).size; omega
              have hdr : Below wr.heap.size wr wr.drew := (Below.refl _ _).drew
              have CR := hide (ih y y' _ _ B wr.drew (okL_all _ _ (unhide HO).1.2 y (List.mem_of_getElem? (unhide HY).1)) (okL_all _ _ (unhide HO).2.2 y' (List.mem_of_getElem? (unhide HY).2)) (hve.mono (hdr.mono hBc)) (hve'.mono (hdr.mono hBc)) (by have := hdr.size; omega))
              obtain ⟨R, hR⟩ : ∃ R, ord y y' = R := ⟨_, rfl⟩
              rw [hR] at CR
              have HRR := hide hR
              clear hR hce hce' hve hve' hdr
              go_upto_region 12 with fail
              go_region_held3 (fun w' => w'.cell? ⟨g, 3, none⟩ = some (.slice (some a) ln cl) ∧ w'.cell? ⟨g + 1, 3, none⟩ = some (.slice (some a') ln' cl') ∧
                  w'.cell? (a.add (i * 5)) = some (.int .i64 y0) ∧ w'.cell? ⟨(a.add (i * 5)).block, (a.add (i * 5)).off + 1, none⟩ = some (.int .i64 y1) ∧ w'.cell? ⟨(a.add (i * 5)).block, (a.add (i * 5)).off + 2, none⟩ = some (.string y2) ∧ w'.cell? ⟨(a.add (i * 5)).block, (a.add (i * 5)).off + 3, none⟩ = some (.slice bl ll' cl1) ∧ w'.cell? ⟨(a.add (i * 5)).block, (a.add (i * 5)).off + 4, none⟩ = some (.slice bk mm ck1) ∧
                  w'.cell? (a'.add (i * 5)) = some (.int .i64 z0) ∧ w'.cell? ⟨(a'.add (i * 5)).block, (a'.add (i * 5)).off + 1, none⟩ = some (.int .i64 z1) ∧ w'.cell? ⟨(a'.add (i * 5)).block, (a'.add (i * 5)).off + 2, none⟩ = some (.string z2) ∧ w'.cell? ⟨(a'.add (i * 5)).block, (a'.add (i * 5)).off + 3, none⟩ = some (.slice bl' zl' cl2) ∧ w'.cell? ⟨(a'.add (i * 5)).block, (a'.add (i * 5)).off + 4, none⟩ = some (.slice bk' zm ck2))
                (first | go_keep | (have hb6 := below_drew_of' b5; exact ⟨cell_later hb6 c3, cell_later hb6 d3, cell_later hb6 e0, cell_later hb6 e1, cell_later hb6 e2, cell_later hb6 e3, cell_later hb6 e4, cell_later hb6 f0, cell_later hb6 f1, cell_later hb6 f2, cell_later hb6 f3, cell_later hb6 f4⟩))
                (first | (go_at_call 50; refine (unhide CR).mono ?_; rintro e w5 ⟨rfl, b5⟩))
              have HX5 : Hid (Below w2.heap.size w2 w5) := hide ((unhide HXc).trans ((below_drew_of' b5).mono (unhide HXc).size))
              clear b5 CR
              clear c0 c1 c2 c3 c4 d0 d1 d2 d3 d4 e0 e1 e2 e3 e4 f0 f1 f2 f3 f4 HVc HXc
              have HR' : Hid (Z = if R ≠ 0 then R else ordL (decide (k = 5)) (l.drop (i + 1)) (ks.drop (i + 1)) (l'.drop (i + 1)) (ks'.drop (i + 1))) := hide (by have h := unhide HS2; rw [unhide HR]; rw [decide_eq_false h5]; rw [if_neg (by simp), h, unhide HRR])
              have HI1 : Hid (i + 1 ≤ M) := hide (by omega)
              go_wp2_with fail
              go_roundw
              case rel => exact ⟨i + 1, R, unhide HI1, by go_num, rfl, HX5, HR'⟩
              case measure => have := unhide HI1; simp [intOf]; omega
          · have hiM : i = M := by omega
            subst hiM
            have HG2 : Hid (Z = cmpI (ln : Int) (ln' : Int)) := hide (by
              have e1 := (unhide HL).2.1
              have e2 := (unhide HL).2.2.2
              rw [unhide HR, if_neg (by simp), ordL_end _ l l' ks ks' i (by rw [e1, e2]; exact (unhide HM).symm), e1, e2])
            have hmn := unhide HM
            rcases (show ln < ln' ∨ ln' < ln ∨ ln = ln' by omega) with h3 | h3 | h3
            · have j1 : ¬ (i : Int) < (ln : Int) := by omega
              have j2 : (ln : Int) < (ln' : Int) := by omega
              have HG3 : Hid (Z = -1) := hide (by rw [unhide HG2]; simp [cmpI, h3])
              clear hmn
              go_wp2_with fail
              go_ret
              exact ⟨by rw [unhide HG3]; rfl, by first | exact (unhide HB).trans ((unhide HX).mono (by have := (unhide HT).size; omega)) | (rw [← hg]; exact (unhide HB).trans ((unhide HX).mono (by have := (unhide HT).size; omega)))⟩
            · have j0 : (i : Int) < (ln : Int) := by omega
              have j1 : ¬ (i : Int) < (ln' : Int) := by omega
              have j2 : (ln' : Int) < (ln : Int) := by omega
              have j3 : ¬ (ln : Int) < (ln' : Int) := by omega
              have HG3 : Hid (Z = 1) := hide (by rw [unhide HG2]; unfold cmpI; rw [if_neg j3, if_pos j2])
              clear hmn
              go_wp2_with fail
              go_ret
              exact ⟨by rw [unhide HG3]; rfl, by first | exact (unhide HB).trans ((unhide HX).mono (by have := (unhide HT).size; omega)) | (rw [← hg]; exact (unhide HB).trans ((unhide HX).mono (by have := (unhide HT).size; omega)))⟩
            · have j1 : ¬ (i : Int) < (ln : Int) := by omega
              have j2 : ¬ (ln' : Int) < (ln : Int) := by omega
              have j3 : ¬ (ln : Int) < (ln' : Int) := by omega
              have HG3 : Hid (Z = 0) := hide (by rw [unhide HG2]; unfold cmpI; rw [if_neg j3, if_neg j2])
              clear hmn h3
              go_wp2_with fail
              go_ret
              exact ⟨by rw [unhide HG3]; rfl, by first | exact (unhide HB).trans ((unhide HX).mono (by have := (unhide HT).size; omega)) | (rw [← hg]; exact (unhide HB).trans ((unhide HX).mono (by have := (unhide HT).size; omega)))⟩
        · have hb0 : (c == 0) = false := by simpa using hc
          have HG2 : Hid (Z = c) := hide (by rw [unhide HR, if_pos hc])
          clear hc
          by_cases q1 : (i : Int) < (ln : Int)
          · by_cases q2 : (i : Int) < (ln' : Int)
            · go_wp2_with fail
              go_ret
              exact ⟨by rw [unhide HG2]; rfl, by first | exact (unhide HB).trans ((unhide HX).mono (by have := (unhide HT).size; omega)) | (rw [← hg]; exact (unhide HB).trans ((unhide HX).mono (by have := (unhide HT).size; omega)))⟩
            · go_wp2_with fail
              go_ret
              exact ⟨by rw [unhide HG2]; rfl, by first | exact (unhide HB).trans ((unhide HX).mono (by have := (unhide HT).size; omega)) | (rw [← hg]; exact (unhide HB).trans ((unhide HX).mono (by have := (unhide HT).size; omega)))⟩
          · go_wp2_with fail
            go_ret
            exact ⟨by rw [unhide HG2]; rfl, by first | exact (unhide HB).trans ((unhide HX).mono (by have := (unhide HT).size; omega)) | (rw [← hg]; exact (unhide HB).trans ((unhide HX).mono (by have := (unhide HT).size; omega)))⟩

theorem rorder_any : ∀ b, ROrderAt b
  | 0 => rorder_zero
  | b + 1 => rorder_step b (rorder_any b)
end Go.Proofs.Ytlmgiimgmjbkeaa
