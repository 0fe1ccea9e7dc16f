/-
  The walk of scruplelaw03.Still of a value that was lent and is as it was; conditions: the form's own reach.
-/
import Derived.Test.YtlmgiimgmjbkeaaA22
import Derived.Test.YtlmgiimgmjbkeaaA26
import Derived.Test.YtlmgiimgmjbkeaaA21
set_option linter.unusedVariables false
set_option linter.unusedSimpArgs false
namespace Go.Proofs.Ytlmgiimgmjbkeaa
open Go.RowKit
set_option linter.unusedVariables false
set_option linter.unusedSimpArgs false

def markVl : Vl := .mk 2 77 ⟨#[]⟩ [] []
theorem mark_isV (w : World) (B : Nat) : IsV w B markVl (.agg #[.int .i64 2, .int .i64 77, .string ⟨#[]⟩, .slice none 0 0, .slice none 0 0]) :=
  IsP.of (V := fun _ => []) ⟨by omega, by omega, by decide, fun _ => ⟨rfl, rfl⟩, fun _ => ⟨rfl, rfl⟩, Nat.le_refl _, Nat.le_refl _, by decide, by decide, by decide, fun a ha => by (cases ha), fun i hi => by (simp at hi), fun a ha => by (cases ha), fun t ht => by (cases ht)⟩ (fun i y hy => by simp at hy)

/-- how a lent value's row of elements lies -/
theorem LF.cells {w : World} {P : Nat → Prop} {l : List Vl} {ks : List ByteArray} {bl bk : Nat} {V : Nat → List Value} (h : LF w P l ks bl bk V) {i : Nat} (hi : i < l.length + 4) : ∀ j v, (V i)[j]? = some v → w.cell? ⟨bl, i * 5 + j, none⟩ = some v := fun j v hv => by
  rw [cell_of_row w bl (i * 5 + j) _ _ (0, 0) h.hl, List.getElem?_toArray]
  exact flat_at V (l.length + 4) h.hv i hi j v hv

theorem LF.key {w : World} {P : Nat → Prop} {l : List Vl} {ks : List ByteArray} {bl bk : Nat} {V : Nat → List Value} (h : LF w P l ks bl bk V) (i : Nat) (v : Value) (hv : (rowK ks)[i]? = some v) : w.cell? ⟨bk, i, none⟩ = some v := by
  rw [cell_of_row w bk i _ _ (0, 0) h.hk, List.getElem?_toArray]
  exact hv

def StillAt (d : Nat) : Prop := ∀ (v : Vl) (x y : Value) (B a : Nat) (P : Nat → Prop) (w : World), dep v ≤ d → a + dep v ≤ 1000000 → (a = 0 → rightB v = true) → Ln w P v x → (∀ b, P b → b < w.heap.size) → IsV w B v y → B ≤ w.heap.size →
    Calls Try.prog 18 #[x, y, .int .i64 (a : Int)] w fun e w' => e = .returned (.bool true) ∧ Below w.heap.size w w'

theorem still_zero : StillAt 0 := by
  intro v x y B a P w h
  have := dep_pos v
  omega

set_option maxRecDepth 100000 in
set_option maxHeartbeats 2000000 in
theorem still_step (d : Nat) (ih : StillAt d) : StillAt (d + 1) := by
  intro v x y B a P w hd ha hr hL hP hv hBs
  obtain ⟨k, n, s, l, ks, al, ak, cl, ck, rfl, rfl⟩ := hv.shape
  obtain ⟨bl, bk, V, hxe, hF, hLL⟩ := hL
  obtain ⟨m, hm⟩ : ∃ m, ks.length = m := ⟨_, rfl⟩
  obtain ⟨ln, hln⟩ : ∃ ln, l.length = ln := ⟨_, rfl⟩
  have hx' : x = .agg #[.int .i64 k, .int .i64 n, .string s, .slice (some ⟨bl, 0, none⟩) ln (ln + 4), .slice (some ⟨bk, 0, none⟩) m (m + 4)] := by
    rw [hxe, ← hm, ← hln]
    rfl
  subst hx'
  clear hxe
  rw [hm, hln] at hv
  rw [hm, hln]
  have hb1 : ln ≤ 140737488351232 ∧ m ≤ 140737488351232 := by
    obtain ⟨_, _, _, h1, h2, V', hf, _⟩ := IsP.at hv
    have := hf.bl
    have := hf.bc
    omega
  obtain ⟨hlb, hmb⟩ := hb1
  have TW := Two.mk' w 34 #[.int .i64 k, .int .i64 n, .string s, .slice (some ⟨bl, 0, none⟩) ln (ln + 4), .slice (some ⟨bk, 0, none⟩) m (m + 4)] #[.int .i64 k, .int .i64 n, .string s, .slice al ln cl, .slice ak m ck]
  obtain ⟨w2, hw2⟩ : ∃ w2, (w.alloc (.cells #[.int .i64 k, .int .i64 n, .string s, .slice (some ⟨bl, 0, none⟩) ln (ln + 4), .slice (some ⟨bk, 0, none⟩) m (m + 4)] 34)).alloc (.cells #[.int .i64 k, .int .i64 n, .string s, .slice al ln cl, .slice ak m ck] 34) = w2 := ⟨_, rfl⟩
  rw [hw2] at TW
  obtain ⟨g, hg⟩ : ∃ g, w.heap.size = g := ⟨_, rfl⟩
  rw [hg] at TW
  have HT := hide TW
  have HV : Hid (∀ u, Below w2.heap.size w2 u → IsV u B (.mk k n s l ks) (.agg #[.int .i64 k, .int .i64 n, .string s, .slice al ln cl, .slice ak m ck]) ∧ LF u P l ks bl bk V ∧ (∀ i y, l[i]? = some y → Ln u P y (.agg (V i).toArray)) ∧ Below w.heap.size w u ∧ (∀ b, P b → b < u.heap.size) ∧ B ≤ u.heap.size) :=
    hide (fun u hu => by
      have hsz := TW.size
      have h1 : Below w.heap.size w u := TW.below.trans (hu.mono (by omega))
      refine ⟨hv.mono (h1.mono hBs), hF.to (fun b hb => h1.block b (hP b hb)) (fun _ h => h), (LnL_iff u P l V).1 (LnL.to (fun b hb => h1.block b (hP b hb)) (fun _ h => h) l V hLL), h1, fun b hb => Nat.lt_of_lt_of_le (hP b hb) h1.size, Nat.le_trans hBs h1.size⟩)
  have HLN := hide (And.intro hm hln)
  have hdl : ∀ i y, l[i]? = some y → dep y ≤ d := fun i y h => by have h1 := dep_elem l i y h; simp only [dep] at hd; omega
  have ha1 : ∀ i y, l[i]? = some y → a + 1 + dep y ≤ 1000000 := fun i y h => by have h1 := dep_elem l i y h; simp only [dep] at ha; omega
  have haB : a ≤ 1000000 := by omega
  have HD := hide (And.intro hdl ha1)
  have HRR := hide hr
  obtain ⟨N4, hN4⟩ : ∃ N, ln + 4 = N := ⟨_, rfl⟩
  obtain ⟨M4, hM4⟩ : ∃ N, m + 4 = N := ⟨_, rfl⟩
  rw [hN4, hM4] at HT hw2 ⊢
  have wn : IntKind.i64.wrap ((ln : Int) + 4) = (N4 : Int) := by rw [IntKind.wrap_i64]; omega
  have wm : IntKind.i64.wrap ((m : Int) + 4) = (M4 : Int) := by rw [IntKind.wrap_i64]; omega
  have wa : IntKind.i64.wrap ((a : Int) + 1) = ((a + 1 : Nat) : Int) := by rw [IntKind.wrap_i64]; omega
  have HN := hide (And.intro hN4 hM4)
  obtain ⟨c0, c1, c2, c3, c4⟩ := row_cell (unhide HT).at0
  obtain ⟨d0, d1, d2, d3, d4⟩ := row_cell (unhide HT).at1
  have hNb : N4 ≤ 140737488351240 := by omega
  have hMb : M4 ≤ 140737488351240 := by omega
  clear TW hv hF hLL hm hln hdl ha1 hd ha hr hP hN4 hM4
  go_enter Try.func18, Try.ntmps18
  go_upto_region 1 with fail
  try rw [hw2]
  clear hw2
  go_cut [7] from 14 to 21 (fun y wx => y = .bool true ∧ Hid (Below w2.heap.size w2 wx))
  case first =>
    by_cases ha0 : a = 0
    · subst ha0
      have CR := hide (right_ref _ _ B w2 (unhide HV w2 (Below.refl _ _)).1 (unhide HV w2 (Below.refl _ _)).2.2.2.2.2)
      rw [unhide HRR rfl] at CR
      have j0 : ¬ (0 : Int) < ((0 : Nat) : Int) := by omega
      go_wp2_with fail
      refine (unhide CR).mono ?_
      rintro e u ⟨rfl, b⟩
      have HB := hide b
      clear b CR
      go_wp2_with fail
      go_meet
      exact ⟨rfl, HB⟩
    · have j0 : (0 : Int) < (a : Int) := by omega
      go_wp2_with fail
      go_meet
      exact ⟨rfl, hide (Below.refl _ _)⟩
  case rest =>
    obtain ⟨rfl, HB⟩ := hcut
    clear c0 c1 c2 c3 c4 d0 d1 d2 d3 d4
    obtain ⟨u1, hu1⟩ : ∃ u1, wc = u1 := ⟨_, rfl⟩
    rw [hu1] at HB ⊢
    clear hu1
    obtain ⟨r0, r1⟩ := (unhide HT).later (unhide HB)
    obtain ⟨c0, c1, c2, c3, c4⟩ := row_cell r0
    obtain ⟨d0, d1, d2, d3, d4⟩ := row_cell r1
    clear r0 r1
    have ks1 : (!(s.toList == s.toList)) = false := by simp
    go_wp2_with fail
    clear c0 c1 c2 c3 c4 d0 d1 d2 d3 d4
    go_loopw [10] (fun x wr => ∃ i : Nat, i ≤ N4 ∧ x = .int .i64 (i : Int) ∧ Hid (Below w2.heap.size w2 wr)) (fun x _ => N4 - (intOf x).toNat)
    case atStart => exact ⟨0, by omega, rfl, HB⟩
    case round =>
      clear HB
      obtain ⟨i, hi, rfl, HB⟩ := hrel
      by_cases hlt : i < N4
      · have j1 : (i : Int) < (N4 : Int) := by omega
        have HI1 : Hid (i + 1 ≤ N4) := hide (by omega)
        go_wp2_with fail
        refine (mark_any _).mono ?_
        rintro e u2 ⟨rfl, b2⟩
        have HB2 := hide ((unhide HB).trans (b2.mono (unhide HB).size))
        clear b2
        obtain ⟨gq, hgq⟩ : ∃ gq, u2.heap.size = gq := ⟨_, rfl⟩
        have BX := Box.mk' u2 (.int .i64 2) (.int .i64 77) (.string ⟨#[]⟩) (.slice none 0 0) (.slice none 0 0)
        go_upto_region 12 with fail
        obtain ⟨u3, hu3⟩ : ∃ u3, u2.alloc (.cells #[.int .i64 2, .int .i64 77, .string ⟨#[]⟩, .slice none 0 0, .slice none 0 0] 34) = u3 := ⟨_, rfl⟩
        rw [hu3] at BX ⊢
        have H3 : Hid (Below w2.heap.size w2 u3 ∧ u3.heap[gq]? = some (.cells #[.int .i64 2, .int .i64 77, .string ⟨#[]⟩, .slice none 0 0, .slice none 0 0] 34 (0, 0))) := hide ⟨(unhide HB2).trans (BX.below.mono (unhide HB2).size), by rw [← hgq]; exact BX.row⟩
        clear BX hu3 hgq HB2
        obtain ⟨r0, r1⟩ := (unhide HT).later (unhide H3).1
        obtain ⟨c0, c1, c2, c3, c4⟩ := row_cell r0
        obtain ⟨d0, d1, d2, d3, d4⟩ := row_cell r1
        clear r0 r1
        obtain ⟨v1, v2, v3, v4, v5, v6⟩ := unhide HV u3 (unhide H3).1
        have hc := v2.cells (i := i) (by have := (unhide HLN).2; have := (unhide HN).1; omega)
        by_cases hil : i < ln
        · have j2 : (i : Int) < (ln : Int) := by omega
          obtain ⟨yv, hy⟩ : ∃ yv, l[i]? = some yv := ⟨_, List.getElem?_eq_getElem (by have := (unhide HLN).2; omega)⟩
          have hLn := v3 i yv hy
          obtain ⟨ae, y0, y1, y2, el, ek, ll', mm, cl1, ck1, rfl, hab, hce, hve⟩ := v1.elem i yv hy
          have e0 : u3.cell? (ae.add (i * 5)) = some (.int .i64 y0) := hce 0 _ rfl
          have e1 : u3.cell? ⟨(ae.add (i * 5)).block, (ae.add (i * 5)).off + 1, none⟩ = some (.int .i64 y1) := hce 1 _ rfl
          have e2 : u3.cell? ⟨(ae.add (i * 5)).block, (ae.add (i * 5)).off + 2, none⟩ = some (.string y2) := hce 2 _ rfl
          have e3 : u3.cell? ⟨(ae.add (i * 5)).block, (ae.add (i * 5)).off + 3, none⟩ = some (.slice el ll' cl1) := hce 3 _ rfl
          have e4 : u3.cell? ⟨(ae.add (i * 5)).block, (ae.add (i * 5)).off + 4, none⟩ = some (.slice ek mm ck1) := hce 4 _ rfl
          have CR := hide (fun (u : World) (hu : Below u3.heap.size u3 u) => ih yv _ _ B (a + 1) P u ((unhide HD).1 i yv hy) ((unhide HD).2 i yv hy) (fun h => by omega) (hLn.to (fun b hb => hu.block b (v5 b hb)) (fun _ h => h)) (fun b hb => Nat.lt_of_lt_of_le (v5 b hb) hu.size) (hve.mono (hu.mono v6)) (Nat.le_trans v6 hu.size))
          obtain ⟨bl2, bk2, V2, hVi, _, _⟩ := hLn
          have hVe : V i = [.int .i64 yv.kind, .int .i64 yv.n, .string yv.s, .slice (some ⟨bl2, 0, none⟩) yv.l.length (yv.l.length + 4), .slice (some ⟨bk2, 0, none⟩) yv.ks.length (yv.ks.length + 4)] := by
            have h1 := Value.agg.inj hVi
            have h2 := congrArg Array.toList h1
            simpa using h2
          rw [hVe] at hc CR
          obtain ⟨z0, hz0⟩ : ∃ z, yv.kind = z := ⟨_, rfl⟩
          obtain ⟨z1, hz1⟩ : ∃ z, yv.n = z := ⟨_, rfl⟩
          obtain ⟨z2, hz2⟩ : ∃ z, yv.s = z := ⟨_, rfl⟩
          obtain ⟨z3, hz3⟩ : ∃ z, yv.l.length = z := ⟨_, rfl⟩
          obtain ⟨z4, hz4⟩ : ∃ z, yv.ks.length = z := ⟨_, rfl⟩
          rw [hz0, hz1, hz2, hz3, hz4] at hc CR
          have q0 : u3.cell? ⟨bl, i * 5, none⟩ = some (.int .i64 z0) := by simpa using hc 0 _ rfl
          have q1 : u3.cell? ⟨bl, i * 5 + 1, none⟩ = some (.int .i64 z1) := hc 1 _ rfl
          have q2 : u3.cell? ⟨bl, i * 5 + 2, none⟩ = some (.string z2) := hc 2 _ rfl
          have q3 : u3.cell? ⟨bl, i * 5 + 3, none⟩ = some (.slice (some ⟨bl2, 0, none⟩) z3 (z3 + 4)) := hc 3 _ rfl
          have q4 : u3.cell? ⟨bl, i * 5 + 4, none⟩ = some (.slice (some ⟨bk2, 0, none⟩) z4 (z4 + 4)) := hc 4 _ rfl
          have CR1 := hide (unhide CR u3.drew ((Below.refl _ _).drew))
          clear hc hce hve hVi hVe hz0 hz1 hz2 hz3 hz4 v1 v2 v3 v4 v5 v6 CR
          go_upto_region 14 with fail
          go_cut [12] from 73 to 104 (fun r wx => r = .bool true ∧ Hid (Below w2.heap.size w2 wx))
          case first =>
            go_region_held3 (fun w' => w'.cell? ⟨g + 1, 3, none⟩ = some (.slice (some ae) ln cl) ∧ w'.cell? ⟨bl, i * 5, none⟩ = some (.int .i64 z0) ∧ w'.cell? ⟨bl, i * 5 + 1, none⟩ = some (.int .i64 z1) ∧ w'.cell? ⟨bl, i * 5 + 2, none⟩ = some (.string z2) ∧ w'.cell? ⟨bl, i * 5 + 3, none⟩ = some (.slice (some ⟨bl2, 0, none⟩) z3 (z3 + 4)) ∧ w'.cell? ⟨bl, i * 5 + 4, none⟩ = some (.slice (some ⟨bk2, 0, none⟩) z4 (z4 + 4)) ∧ w'.cell? (ae.add (i * 5)) = some (.int .i64 y0) ∧ w'.cell? ⟨(ae.add (i * 5)).block, (ae.add (i * 5)).off + 1, none⟩ = some (.int .i64 y1) ∧ w'.cell? ⟨(ae.add (i * 5)).block, (ae.add (i * 5)).off + 2, none⟩ = some (.string y2) ∧ w'.cell? ⟨(ae.add (i * 5)).block, (ae.add (i * 5)).off + 3, none⟩ = some (.slice el ll' cl1) ∧ w'.cell? ⟨(ae.add (i * 5)).block, (ae.add (i * 5)).off + 4, none⟩ = some (.slice ek mm ck1))
              (first | go_keep | (have hb6 := below_drew_of' b5; exact ⟨cell_later hb6 d3, cell_later hb6 q0, cell_later hb6 q1, cell_later hb6 q2, cell_later hb6 q3, cell_later hb6 q4, cell_later hb6 e0, cell_later hb6 e1, cell_later hb6 e2, cell_later hb6 e3, cell_later hb6 e4⟩))
              (first | (go_at_call 18; refine (unhide CR1).mono ?_; rintro e w5 ⟨rfl, b5⟩))
            have HX5 : Hid (Below w2.heap.size w2 w5) := hide ((unhide H3).1.trans ((below_drew_of' b5).mono (unhide H3).1.size))
            clear b5 CR1
            go_wp2_with fail
            go_meet
            exact ⟨rfl, HX5⟩
          case rest =>
            obtain ⟨rfl, HX5⟩ := hcut
            clear c0 c1 c2 c3 c4 d0 d1 d2 d3 d4 e0 e1 e2 e3 e4 q0 q1 q2 q3 q4 CR1
            go_wp2_with fail
            go_roundw
            case rel => exact ⟨i + 1, unhide HI1, by go_num, HX5⟩
            case measure => have := unhide HI1; simp [intOf]; omega
        · have j2 : ¬ (i : Int) < (ln : Int) := by omega
          have hVe : V i = markV := v2.hm i (by have := (unhide HLN).2; omega) (by have := (unhide HLN).2; have := (unhide HN).1; omega)
          rw [hVe] at hc
          have q0 : u3.cell? ⟨bl, i * 5, none⟩ = some (.int .i64 2) := by simpa using hc 0 _ rfl
          have q1 : u3.cell? ⟨bl, i * 5 + 1, none⟩ = some (.int .i64 77) := hc 1 _ rfl
          have q2 : u3.cell? ⟨bl, i * 5 + 2, none⟩ = some (.string ⟨#[]⟩) := hc 2 _ rfl
          have q3 : u3.cell? ⟨bl, i * 5 + 3, none⟩ = some (.slice none 0 0) := hc 3 _ rfl
          have q4 : u3.cell? ⟨bl, i * 5 + 4, none⟩ = some (.slice none 0 0) := hc 4 _ rfl
          obtain ⟨m0, m1, m2, m3, m4⟩ := row_cell (unhide H3).2
          have CR1 := hide (same3_any (dep markVl) markVl markVl _ _ u3.drew.heap.size u3.drew (Nat.le_refl _) (mark_isV _ _) (mark_isV _ _) (Nat.le_refl _))
          rw [(sameB_iff markVl markVl).2 rfl] at CR1
          clear hc hVe v1 v2 v3 v4 v5 v6
          go_upto_region 15 with fail
          go_cut [12] from 73 to 104 (fun r wx => r = .bool true ∧ Hid (Below w2.heap.size w2 wx))
          case first =>
            go_region_held3 (fun w' => w'.cell? ⟨bl, i * 5, none⟩ = some (.int .i64 2) ∧ w'.cell? ⟨bl, i * 5 + 1, none⟩ = some (.int .i64 77) ∧ w'.cell? ⟨bl, i * 5 + 2, none⟩ = some (.string ⟨#[]⟩) ∧ w'.cell? ⟨bl, i * 5 + 3, none⟩ = some (.slice none 0 0) ∧ w'.cell? ⟨bl, i * 5 + 4, none⟩ = some (.slice none 0 0) ∧ w'.cell? ⟨gq, 0, none⟩ = some (.int .i64 2) ∧ w'.cell? ⟨gq, 1, none⟩ = some (.int .i64 77) ∧ w'.cell? ⟨gq, 2, none⟩ = some (.string ⟨#[]⟩) ∧ w'.cell? ⟨gq, 3, none⟩ = some (.slice none 0 0) ∧ w'.cell? ⟨gq, 4, none⟩ = some (.slice none 0 0))
              (first | go_keep | (have hb6 := below_drew_of' b5; exact ⟨cell_later hb6 q0, cell_later hb6 q1, cell_later hb6 q2, cell_later hb6 q3, cell_later hb6 q4, cell_later hb6 m0, cell_later hb6 m1, cell_later hb6 m2, cell_later hb6 m3, cell_later hb6 m4⟩))
              (first | (go_at_call 29; refine (unhide CR1).mono ?_; rintro e w5 ⟨rfl, b5⟩))
            have HX5 : Hid (Below w2.heap.size w2 w5) := hide ((unhide H3).1.trans ((below_drew_of' b5).mono (unhide H3).1.size))
            clear b5 CR1
            go_wp2_with fail
            go_meet
            exact ⟨rfl, HX5⟩
          case rest =>
            obtain ⟨rfl, HX5⟩ := hcut
            clear c0 c1 c2 c3 c4 d0 d1 d2 d3 d4 q0 q1 q2 q3 q4 m0 m1 m2 m3 m4 CR1
            go_wp2_with fail
            go_roundw
            case rel => exact ⟨i + 1, unhide HI1, by go_num, HX5⟩
            case measure => have := unhide HI1; simp [intOf]; omega
      · have j1 : ¬ (i : Int) < (N4 : Int) := by omega
        go_wp2_with fail
        go_loopw [13] (fun x wr => ∃ i : Nat, i ≤ M4 ∧ x = .int .i64 (i : Int) ∧ Hid (Below w2.heap.size w2 wr)) (fun x _ => M4 - (intOf x).toNat)
        case atStart => exact ⟨0, by omega, rfl, HB⟩
        case round =>
          clear HB
          obtain ⟨i, hi, rfl, HB⟩ := hrel
          by_cases hlt : i < M4
          · have j1 : (i : Int) < (M4 : Int) := by omega
            have HI1 : Hid (i + 1 ≤ M4) := hide (by omega)
            obtain ⟨r0, r1⟩ := (unhide HT).later (unhide HB)
            obtain ⟨d0, d1, d2, d3, d4⟩ := row_cell r1
            clear r0 r1
            obtain ⟨v1, v2, v3, v4, v5, v6⟩ := unhide HV wr (unhide HB)
            by_cases him : i < m
            · have j2 : (i : Int) < (m : Int) := by omega
              obtain ⟨tk, htk⟩ : ∃ tk, ks[i]? = some tk := ⟨_, List.getElem?_eq_getElem (by have := (unhide HLN).1; omega)⟩
              have q0 := v2.key i (.string tk) (rowK_at ks i tk htk)
              obtain ⟨a2, rfl⟩ : ∃ a2, ak = some a2 := by
                cases ak with
                | none => have h1 := v1.keys.1.none rfl; have h2 := (unhide HLN).1; omega
                | some a2 => exact ⟨a2, rfl⟩
              have cK := v1.keys.1.cell a2 rfl i tk htk
              have k5 : (!(tk.toList == tk.toList)) = false := by simp
              have k6 : decide (m ≤ i) = false := decide_eq_false (by omega)
              have k7 : decide (i < m) = true := decide_eq_true him
              have k8 : ¬ (m : Int) ≤ (i : Int) := by omega
              clear v1 v2 v3 v4 v5 v6 htk
              go_upto_region 21 with fail
              go_quiet (fail)
              go_wp2_with fail
              go_roundw
              case rel => exact ⟨i + 1, unhide HI1, by go_num, hide (below_drewN (unhide HB) _)⟩
              case measure => have := unhide HI1; simp [intOf]; omega
            · have j2 : ¬ (i : Int) < (m : Int) := by omega
              have q0 : wr.cell? ⟨bk, i, none⟩ = some (.string ⟨#[109, 97, 114, 107]⟩) := v2.key i _ (rowK_mark ks i (by have := (unhide HLN).1; omega) (by have := (unhide HLN).1; have := (unhide HN).2; omega))
              have k6 : decide (m ≤ i) = true := decide_eq_true (by omega)
              have k7 : decide (i < m) = false := decide_eq_false him
              have k8 : (m : Int) ≤ (i : Int) := by omega
              clear v1 v2 v3 v4 v5 v6
              go_upto_region 21 with fail
              go_quiet (fail)
              go_wp2_with fail
              go_roundw
              case rel => exact ⟨i + 1, unhide HI1, by go_num, hide (below_drewN (unhide HB) _)⟩
              case measure => have := unhide HI1; simp [intOf]; omega
          · have j1 : ¬ (i : Int) < (M4 : Int) := by omega
            have HF := hide (unhide HV wr (unhide HB)).2.2.2.1
            go_wp2_with fail
            go_ret
            exact ⟨rfl, by first | exact unhide HF | (rw [← hg]; exact unhide HF)⟩

theorem still_any : ∀ d, StillAt d
  | 0 => still_zero
  | d + 1 => still_step d (still_any d)
end Go.Proofs.Ytlmgiimgmjbkeaa
