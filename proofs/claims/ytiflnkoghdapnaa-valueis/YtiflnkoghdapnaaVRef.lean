/-
  The walks of the document's Weight, deep, Depth; no conditions but the form's own reach.
-/
import Derived.Test.YtiflnkoghdapnaaVRefR
namespace Go.Proofs.Ytiflnkoghdapnaa
open Go.RowKit

set_option maxRecDepth 100000 in
set_option maxHeartbeats 400000 in
theorem weight_ref (v : Vl) (x : Value) (B : Nat) (w : World) (hv : IsV w B v x) (hBs : B ≤ w.heap.size) :
    Calls Try.prog 9 #[x] w fun e w' => e = .returned (.int .i64 (wt0 v : Int)) ∧ Below w.heap.size w w' := by
  obtain ⟨k', n', s', l', ks', al', ak', cl', ck', hy', hx⟩ := hv.shape
  obtain ⟨ll, hll⟩ : ∃ ll, l'.length = ll := ⟨_, rfl⟩
  obtain ⟨m, hm⟩ : ∃ m, ks'.length = m := ⟨_, rfl⟩
  rw [hll, hm] at hx
  subst hx
  obtain ⟨w1, hw1⟩ : ∃ w1, w.alloc (.cells #[.int .i64 k', .int .i64 n', .string s', .slice al' ll cl', .slice ak' m ck'] 25) = w1 := ⟨_, rfl⟩
  have BX := Box.mk' w (.int .i64 k') (.int .i64 n') (.string s') (.slice al' ll cl') (.slice ak' m ck')
  rw [hw1] at BX
  obtain ⟨c0, c1, c2, c3, c4⟩ := row_cell BX.row
  have z1 := BX.size
  have HB := hide BX.below
  have CW := hide (weigh_any 8 v _ 0 0 B w1 (by omega) (hv.mono (BX.below.mono hBs)) (by omega) (by omega))
  clear BX hv hy'
  cases hr : rightB v with
  | true =>
    have hz : wt0 v = wt v := by unfold wt0; rw [hr]; rfl
    have hwl : wt v ≤ 2048 := by
      unfold rightB at hr
      rw [Bool.and_eq_true, decide_eq_true_eq] at hr
      exact hr.2
    rw [(wgh_right v).2.1 hr] at CW
    obtain ⟨W, hW⟩ : ∃ W, wt v = W := ⟨_, rfl⟩
    rw [hW] at CW hz hwl
    rw [hz]
    have h1 : ¬ (2048 : Int) < (W : Int) := by omega
    clear hr hz hW
    go_enter Try.func9, Try.ntmps9
    go_wp2_with fail
    refine (unhide CW).mono ?_
    rintro e w2 ⟨rfl, b2⟩
    have B2 := hide b2
    clear b2 CW
    go_wp2_with fail
    go_ret
    exact ⟨rfl, (unhide HB).trans ((unhide B2).mono (by omega))⟩
  | false =>
    have hz : wt0 v = 0 := by unfold wt0; rw [hr]; rfl
    rw [(wgh_right v).2.2 hr] at CW
    rw [hz]
    clear hr hz
    go_enter Try.func9, Try.ntmps9
    go_wp2_with fail
    refine (unhide CW).mono ?_
    rintro e w2 ⟨rfl, b2⟩
    have B2 := hide b2
    clear b2 CW
    go_wp2_with fail
    go_ret
    exact ⟨rfl, (unhide HB).trans ((unhide B2).mono (by omega))⟩

/-- the document's deep, of what is right -/
def DeepAt (b : Nat) : Prop := ∀ (v : Vl) (x : Value) (B : Nat) (w : World), okB b v = true → IsV w B v x → B ≤ w.heap.size →
  Calls Try.prog 13 #[x] w fun e w' => e = .returned (.int .i64 (dep v : Int)) ∧ Below w.heap.size w w'

theorem dep_le : ∀ (b : Nat) (v : Vl), okB b v = true → dep v ≤ b
  | 0, v, h => by simp [okB] at h
  | b + 1, .mk kind n s l ks, h => by
    simp only [okB, Bool.and_eq_true] at h
    simp only [dep]
    have hl : depL l ≤ b := by
      have : ∀ (l : List Vl), okL b l = true → depL l ≤ b := by
        intro l
        induction l with
        | nil => intro _; simp [depL]
        | cons x r ih =>
          intro hx
          simp only [okL_cons, Bool.and_eq_true] at hx
          have h1 := dep_le b x hx.1
          have h2 := ih hx.2
          rw [depL_cons]
          omega
      exact this l h.2
    omega

set_option maxRecDepth 100000 in
set_option maxHeartbeats 400000 in
theorem deep_step (b : Nat) (ih : DeepAt b) (hb : b ≤ 100) : DeepAt (b + 1) := by
  intro v x B w hok hv hBs
  have hvw := hv
  obtain ⟨kind, n, t, l, ks, al, ak, cl, ck, V, rfl, rfl, ⟨bk, bn, bs, nl, nk, ll, lk, bl, bc, bq, hl', hv', hk, bt⟩, el⟩ := hv.inv
  clear hv
  focus
    obtain ⟨m, hm⟩ : ∃ m, ks.length = m := ⟨_, rfl⟩
    obtain ⟨ln, hln⟩ : ∃ ln, l.length = ln := ⟨_, rfl⟩
    obtain ⟨w1, hw1⟩ : ∃ w1, w.alloc (.cells #[.int .i64 kind, .int .i64 n, .string t, .slice al ln cl, .slice ak m ck] 25) = w1 := ⟨_, rfl⟩
    have BX := Box.mk' w (.int .i64 kind) (.int .i64 n) (.string t) (.slice al ln cl) (.slice ak m ck)
    rw [hw1] at BX
    obtain ⟨g, hg⟩ : ∃ g, w.heap.size = g := ⟨_, rfl⟩
    have z1 := BX.size
    have hlnb : ln ≤ 140737488351232 := by omega
    have H := hide (And.intro BX hvw)
    have HRW : Hid (w1.heap[g]? = some (.cells #[.int .i64 kind, .int .i64 n, .string t, .slice al ln cl, .slice ak m ck] 25 (0, 0))) := hide (by rw [← hg]; exact BX.row)
    have HOK : Hid (okL b l = true) := hide (by simp only [okB, Bool.and_eq_true] at hok; exact hok.2)
    have HDL : Hid (∀ i, depL (l.take i) ≤ b) := hide (by
      intro i
      have h := dep_le (b + 1) (.mk kind n t l ks) hok
      simp only [dep] at h
      have h2 := depL_app (l.take i) (l.drop i)
      rw [List.take_append_drop] at h2
      omega)
    rw [hm, hln]
    have HLN := hide hln
    clear BX hvw hl' hv' hk el nl nk ll lk bl bt hok hm
    go_enter Try.func13, Try.ntmps13
    go_wp2_with fail
    go_loopw [3, 4] (fun y x wr => ∃ (i D : Nat), i ≤ ln ∧ x = .int .i64 i ∧ y = .int .i64 (D : Int) ∧ Hid (Below w1.heap.size w1 wr) ∧ Hid (D = depL (l.take i))) (fun _ x _ => ln - (intOf x).toNat)
    case atStart => exact ⟨0, 0, by omega, rfl, rfl, hide (Below.refl _ _), hide (by simp [depL])⟩
    case round =>
      obtain ⟨i, D, hi, rfl, rfl, HX, HD⟩ := hrel
      obtain ⟨d0, d1, d2, d3, d4⟩ := row_cell (((unhide HX).block g (by omega)).trans (unhide HRW))
      have hDb : D ≤ b := by rw [unhide HD]; exact unhide HDL i
      by_cases hlt : i < ln
      · have i1 : (i : Int) < (ln : Int) := by omega
        have HI1 : Hid (i + 1 ≤ ln) := hide (by omega)
        obtain ⟨y, hy⟩ : ∃ y, l[i]? = some y := ⟨_, List.getElem?_eq_getElem (by omega)⟩
        have bX : Below B w wr := ((unhide H).1.below.mono hBs).trans ((unhide HX).mono (by omega))
        obtain ⟨a, y0, y1, y2, al', ak', ll', m', cl', ck', rfl, hbl, hce, hve⟩ := ((unhide H).2.mono bX).elem i y hy
        have hBr : B ≤ wr.heap.size := by have := (unhide HX).size; omega
        have e0 : wr.cell? (a.add (i * 5)) = some (.int .i64 y0) := hce 0 _ rfl
        have e1 : wr.cell? ⟨(a.add (i * 5)).block, (a.add (i * 5)).off + 1, none⟩ = some (.int .i64 y1) := hce 1 _ rfl
        have e2 : wr.cell? ⟨(a.add (i * 5)).block, (a.add (i * 5)).off + 2, none⟩ = some (.string y2) := hce 2 _ rfl
        have e3 : wr.cell? ⟨(a.add (i * 5)).block, (a.add (i * 5)).off + 3, none⟩ = some (.slice al' ll' cl') := hce 3 _ rfl
        have e4 : wr.cell? ⟨(a.add (i * 5)).block, (a.add (i * 5)).off + 4, none⟩ = some (.slice ak' m' ck') := hce 4 _ rfl
        have CI := hide (ih y _ B wr (okL_all b l (unhide HOK) y (List.mem_of_getElem? hy)) hve hBr)
        obtain ⟨Dy, hDy⟩ : ∃ Dy, dep y = Dy := ⟨_, rfl⟩
        have hDyb : Dy ≤ b := by rw [← hDy]; exact dep_le b y (okL_all b l (unhide HOK) y (List.mem_of_getElem? hy))
        rw [hDy] at CI
        obtain ⟨M, hM⟩ : ∃ M, max D Dy = M := ⟨_, rfl⟩
        have HD2 : Hid (M = depL (l.take (i + 1))) := hide (by rw [depL_next l i y hy, ← hM, unhide HD, hDy])
        have hmx : (if D < Dy then (Dy : Int) else (D : Int)) = (M : Int) := by split <;> omega
        have hmx2 : (max (D : Int) (Dy : Int)) = (M : Int) := by omega
        clear hce hve hy bX hDy
        go_wp2_with fail
        refine (unhide CI).mono ?_
        rintro e w5 ⟨rfl, b5⟩
        have X5 : Hid (Below w1.heap.size w1 w5) := hide ((unhide HX).trans (b5.mono (unhide HX).size))
        clear b5 CI
        go_wp2_with fail
        go_roundw
        case rel => exact ⟨i + 1, M, unhide HI1, by go_num, by first | rfl | (rw [hmx]) , X5, HD2⟩
        case measure => have := unhide HI1; simp [intOf]; omega
      · have i1 : ¬ (i : Int) < (ln : Int) := by omega
        have HG : Hid (dep (.mk kind n t l ks) = D + 1) := hide (by
          have h := unhide HD
          rw [List.take_of_length_le (by have := unhide HLN; omega)] at h
          simp only [dep]
          omega)
        have v1 : IntKind.i64.wrap ((D : Int) + 1) = (D : Int) + 1 := by rw [IntKind.wrap_i64]; omega
        go_wp2_with fail
        go_ret
        exact ⟨by rw [unhide HG]; simp, by first | exact (unhide H).1.below.trans ((unhide HX).mono (by omega)) | (rw [← hg]; exact (unhide H).1.below.trans ((unhide HX).mono (by omega)))⟩

theorem deep_any : ∀ b, b ≤ 100 → DeepAt b
  | 0, _ => fun v x B w h _ _ => by simp [okB] at h
  | b + 1, h => deep_step b (deep_any b (by omega)) (by omega)

set_option maxRecDepth 100000 in
set_option maxHeartbeats 400000 in
theorem depth_ref (v : Vl) (x : Value) (B : Nat) (w : World) (hv : IsV w B v x) (hBs : B ≤ w.heap.size) :
    Calls Try.prog 10 #[x] w fun e w' => e = .returned (.int .i64 (dep0 v : Int)) ∧ Below w.heap.size w w' := by
  obtain ⟨k', n', s', l', ks', al', ak', cl', ck', hy', hx⟩ := hv.shape
  obtain ⟨ll, hll⟩ : ∃ ll, l'.length = ll := ⟨_, rfl⟩
  obtain ⟨m, hm⟩ : ∃ m, ks'.length = m := ⟨_, rfl⟩
  rw [hll, hm] at hx
  subst hx
  obtain ⟨w1, hw1⟩ : ∃ w1, w.alloc (.cells #[.int .i64 k', .int .i64 n', .string s', .slice al' ll cl', .slice ak' m ck'] 25) = w1 := ⟨_, rfl⟩
  have BX := Box.mk' w (.int .i64 k') (.int .i64 n') (.string s') (.slice al' ll cl') (.slice ak' m ck')
  rw [hw1] at BX
  obtain ⟨c0, c1, c2, c3, c4⟩ := row_cell BX.row
  have z1 := BX.size
  have HB := hide BX.below
  have CR := hide (right_ref v _ B w1 (hv.mono (BX.below.mono hBs)) (by omega))
  have HRW := hide BX.row
  cases hr : rightB v with
  | true =>
    have hz : dep0 v = dep v := by unfold dep0; rw [hr]; rfl
    have hok : okB 8 v = true := by
      unfold rightB at hr
      rw [Bool.and_eq_true] at hr
      exact hr.1
    have CD := fun u (hu : Below w1.heap.size w1 u) => hide (deep_any 8 (by omega) v _ B u hok ((hv.mono (BX.below.mono hBs)).mono (hu.mono (by omega))) (by have := hu.size; omega))
    rw [hr] at CR
    obtain ⟨D, hD⟩ : ∃ D, dep v = D := ⟨_, rfl⟩
    rw [hD] at hz CD
    rw [hz]
    clear hr hz hD BX hv hy' hok
    go_enter Try.func10, Try.ntmps10
    go_wp2_with fail
    refine (unhide CR).mono ?_
    rintro e w2 ⟨rfl, b2⟩
    have B2 := hide b2
    have CD2 := CD w2 b2
    obtain ⟨d0, d1, d2, d3, d4⟩ := row_cell ((b2.block _ (by omega)).trans (unhide HRW))
    clear b2 CR CD
    go_wp2_with fail
    refine (unhide CD2).mono ?_
    rintro e w3 ⟨rfl, b3⟩
    have B3 := hide b3
    clear b3 CD2
    go_wp2_with fail
    go_ret
    exact ⟨rfl, (unhide HB).trans (((unhide B2).trans ((unhide B3).mono (unhide B2).size)).mono (by omega))⟩
  | false =>
    have hz : dep0 v = 0 := by unfold dep0; rw [hr]; rfl
    rw [hr] at CR
    rw [hz]
    clear hr hz BX hv hy'
    go_enter Try.func10, Try.ntmps10
    go_wp2_with fail
    refine (unhide CR).mono ?_
    rintro e w2 ⟨rfl, b2⟩
    have B2 := hide b2
    clear b2 CR
    go_wp2_with fail
    go_ret
    exact ⟨rfl, (unhide HB).trans ((unhide B2).mono (by omega))⟩
end Go.Proofs.Ytiflnkoghdapnaa
