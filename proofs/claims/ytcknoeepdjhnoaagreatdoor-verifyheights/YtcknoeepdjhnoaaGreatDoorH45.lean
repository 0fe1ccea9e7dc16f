/-
  The walk of the document's bytes (layer 9): a module's bytes; conditions: its parts may be.
-/
import Derived.Test.YtcknoeepdjhnoaaGreatDoorH44
set_option linter.unusedVariables false
set_option linter.unusedSimpArgs false
namespace Go.Proofs.YtcknoeepdjhnoaaGreatDoor
open Go.RowKit
set_option linter.unusedVariables false
set_option linter.unusedSimpArgs false

theorem bodyP_zero (L : List (List Int)) : bodyP L 0 = encF 9 (L.length : Int) := by simp [bodyP]

theorem Row8.some8 {w : World} {ao : Option Addr} {len cap : Nat} {zs : List Int} (h : Row8 w ao len cap zs) (hp : 0 < len) : ∃ ad, ao = some ad := by
  cases ao with
  | none => have := (h.none rfl).1; omega
  | some ad => exact ⟨ad, rfl⟩

theorem row_cast {w : World} {ao : Option Addr} {len cap : Nat} {zs ys : List Int} (h : Row8 w ao len cap zs) (e : zs = ys) : Row8 w ao len cap ys := e ▸ h

set_option maxRecDepth 100000 in
set_option maxHeartbeats 4000000 in
theorem bytesR_any (m : Md) (a1 a2 a3 : Option Addr) (n1 c1 n2 c2 n3 c3 B : Nat) (w : World) (hn1 : m.cs.length = n1) (hn2 : m.fs.length = n2) (hn3 : m.xs.length = n3) (h : IsM w (fun b => b < B) m a1 c1 a2 c2 a3 c3) (hB : B ≤ w.heap.size) (hF : formedB m = true) :
    Calls Tryz.prog 43 #[.agg #[.slice a1 n1 c1, .slice a2 n2 c2, .slice a3 n3 c3]] w fun e w' => ∃ g c : Nat, e = .returned (.slice (some ⟨g, 0, none⟩) (encM m).length c) ∧ w'.ownsRow w.heap.size 5 1 (.slice (some ⟨g, 0, none⟩) (encM m).length c) (encM m).length ((encM m).map (Value.int .u8)) ∧ Below w.heap.size w w' := by
  obtain ⟨p1, p2, p3, pr, pf, px⟩ := formed_parts hF
  have hfit := cs_fit h.hc
  have HSM := hide (parts_small hF hfit)
  have HOS := hide (outM_small hF hfit)
  rw [hn1] at p1
  rw [hn2] at p2
  rw [hn3] at p3
  obtain ⟨g, hg⟩ : ∃ g, w.heap.size = g := ⟨_, rfl⟩
  have BX := BoxN.mk' w #[.slice a1 n1 c1, .slice a2 n2 c2, .slice a3 n3 c3] 27
  obtain ⟨w1, hw1⟩ : ∃ w1, w.alloc (.cells #[.slice a1 n1 c1, .slice a2 n2 c2, .slice a3 n3 c3] 27) = w1 := ⟨_, rfl⟩
  rw [hw1] at BX
  have HS : Hid (∀ u, Below w1.heap.size w1 u → SeeM u B g m (.slice a1 n1 c1) (.slice a2 n2 c2) (.slice a3 n3 c3) a1 c1 a2 c2 a3 c3 ∧ Below w.heap.size w u) := hide (fun u hu => by
    have S1 : SeeM w1 B g m (.slice a1 n1 c1) (.slice a2 n2 c2) (.slice a3 n3 c3) a1 c1 a2 c2 a3 c3 := ⟨by rw [← hg]; exact BX.row, h.later (BX.below.mono hB), by have := BX.size; omega⟩
    exact ⟨S1.later hu, BX.below.trans (hu.mono (by have := BX.size; omega))⟩)
  have HL0 : Hid ((partsM m 0).length = n1 ∧ (partsM m 1).length = n2 ∧ (partsM m 2).length = n3) := hide ⟨by simp [partsM, hn1], by simp [partsM, hn2], by simp [partsM, hn3]⟩
  have HN := hide (And.intro hn1 (And.intro hn2 hn3))
  have HP := hide (And.intro pr (And.intro pf px))
  have o1 : IntKind.u64.wrap (n1 : Int) = (n1 : Int) := by rw [IntKind.wrap_u64]; omega
  have o2 : IntKind.u64.wrap (n2 : Int) = (n2 : Int) := by rw [IntKind.wrap_u64]; omega
  have o3 : IntKind.u64.wrap (n3 : Int) = (n3 : Int) := by rw [IntKind.wrap_u64]; omega
  obtain ⟨m0, m1, m2⟩ := row_cell3 (unhide HS w1 (Below.refl _ _)).1.box
  have C1 := hide (refUint_row none 0 0 (n1 : Int) (n1 : Int) [] w1 rfl (nilRow _) (by omega) (by omega) (by omega))
  clear h hB BX hn1 hn2 hn3 hF hfit pr pf px
  go_enter Tryz.func43, Tryz.ntmps43
  go_wp2_with fail
  refine (unhide C1).mono ?_
  rintro e u1 ⟨g1, k1, L1, rfl, r1, hg1, b1, hl1, hL1⟩
  have HX1 : Hid (Row8 u1 (some ⟨g1, 0, none⟩) L1 k1 (bodyP (partsM m 0) 0) ∧ L1 ≤ 10 + 0 * 43008 ∧ Below w1.heap.size w1 u1) := hide ⟨row_cast r1 (by rw [bodyP_zero, (unhide HL0).1]; rfl), by omega, b1⟩
  clear C1 r1 hg1 b1 hl1 hL1 m0 m1 m2
  obtain ⟨m0, m1, m2⟩ := row_cell3 (unhide HS u1 (unhide HX1).2.2).1.box
  go_wp2_with fail
  go_loopw [3, 4] (fun y x wr => ∃ (i : Nat) (ao : Option Addr) (len cap : Nat), y = .slice ao len cap ∧ x = .int .i64 (i : Int) ∧ Hid (i ≤ n1) ∧ Hid (Row8 wr ao len cap (bodyP (partsM m 0) i) ∧ len ≤ 10 + i * 43008 ∧ Below w1.heap.size w1 wr)) (fun _ x _ => n1 - (intOf x).toNat)
  case atStart => exact ⟨0, _, _, _, rfl, rfl, hide (by omega), HX1⟩
  case round =>
    clear HX1 m0 m1 m2
    obtain ⟨i, ao, len, cap, rfl, rfl, HI, HX⟩ := hrel
    obtain ⟨m0, m1, m2⟩ := row_cell3 (unhide HS wr (unhide HX).2.2).1.box
    by_cases hlt : i < n1
    · have j1 : (i : Int) < (n1 : Int) := by omega
      have HI1 : Hid (i + 1 ≤ n1) := hide (by omega)
      obtain ⟨v, hv⟩ : ∃ v, m.cs[i]? = some v := ⟨_, List.getElem?_eq_getElem (by have := unhide HN; omega)⟩
      have hR := (unhide HP).1 v (List.mem_of_getElem? hv)
      obtain ⟨a, x0, x1, x2, al', ak', ll', m', cl', ck', rfl, _, hc, hp⟩ := (unhide HS wr (unhide HX).2.2).1.mod.const i v hv
      have k0 : wr.cell? (a.add (i * 5)) = some (.int .i64 x0) := hc 0 _ rfl
      have k1 : wr.cell? ⟨(a.add (i * 5)).block, (a.add (i * 5)).off + 1, none⟩ = some (.int .i64 x1) := hc 1 _ rfl
      have k2 : wr.cell? ⟨(a.add (i * 5)).block, (a.add (i * 5)).off + 2, none⟩ = some (.string x2) := hc 2 _ rfl
      have k3 : wr.cell? ⟨(a.add (i * 5)).block, (a.add (i * 5)).off + 3, none⟩ = some (.slice al' ll' cl') := hc 3 _ rfl
      have k4 : wr.cell? ⟨(a.add (i * 5)).block, (a.add (i * 5)).off + 4, none⟩ = some (.slice ak' m' ck') := hc 4 _ rfl
      have hwl : (wenc v).length ≤ 43008 := by have := wenc_len v; have := (right_wt hR).2; omega
      have hb1 := (unhide HX).2.1
      have CP := hide (put_f ao len cap _ v _ B wr (unhide HX).1 hp (unhide HS wr (unhide HX).2.2).1.low (by omega))
      have hcode : codeR v = 0 := by simp [codeR, hR]
      rw [hcode, if_pos hR] at CP
      have HNX : Hid (bodyP (partsM m 0) i ++ wenc v = bodyP (partsM m 0) (i + 1)) := hide (bodyP_next _ _ _ (by simp [partsM, hv])).symm
      have HWL := hide hwl
      have HB1 := hide hb1
      clear hc hp hv hR hwl hb1 hcode
      go_wp2_with fail
      refine (unhide CP).mono ?_
      rintro e u ⟨ao', len', cap', rfl, r2, b2, _, _⟩
      have HX2 : Hid (Row8 u ao' len' cap' (bodyP (partsM m 0) (i + 1)) ∧ len' ≤ 10 + (i + 1) * 43008 ∧ Below w1.heap.size w1 u) := hide ⟨row_cast r2 (unhide HNX), by
        have h1 := r2.length
        have h2 := (unhide HX).1.length
        rw [List.length_append, h2] at h1
        have := unhide HWL
        have := unhide HB1
        omega, (unhide HX).2.2.trans (b2.mono (unhide HX).2.2.size)⟩
      clear r2 b2 CP
      go_wp2_with fail
      go_roundw
      case rel => exact ⟨i + 1, _, _, _, rfl, by go_num, HI1, HX2⟩
      case measure => have := unhide HI1; simp [intOf]; omega
    · have j1 : ¬ (i : Int) < (n1 : Int) := by omega
      have HY1 : Hid (Row8 wr ao len cap (bodyM (partsM m 0)) ∧ len ≤ 5000000 ∧ Below w1.heap.size w1 wr) := hide ⟨row_cast (unhide HX).1 (by
        have e : i = (partsM m 0).length := by have := unhide HI; have := (unhide HL0).1; omega
        rw [e, bodyP_all]), by have := (unhide HX).2.1; have := unhide HI; omega, (unhide HX).2.2⟩
      have C2 := hide (refUint_row none 0 0 (n2 : Int) (n2 : Int) [] wr rfl (nilRow _) (by omega) (by omega) (by omega))
      clear HX HI
      go_wp2_with fail
      refine (unhide C2).mono ?_
      rintro e u1 ⟨g1, k1, L1, rfl, r1, hg1, b1, hl1, hL1⟩
      have HX1 : Hid (Row8 u1 (some ⟨g1, 0, none⟩) L1 k1 (bodyP (partsM m 1) 0) ∧ L1 ≤ 10 + 0 * 43008 ∧ Below wr.heap.size wr u1) := hide ⟨row_cast r1 (by rw [bodyP_zero, (unhide HL0).2.1]; rfl), by omega, b1⟩
      obtain ⟨wA, hwA⟩ : ∃ wA, wA = wr := ⟨_, rfl⟩
      subst hwA
      clear C2 r1 hg1 b1 hl1 hL1 m0 m1 m2
      have HSA : Hid (∀ u, Below wA.heap.size wA u → Below w1.heap.size w1 u) := hide (fun u hu => (unhide HY1).2.2.trans (hu.mono (unhide HY1).2.2.size))
      obtain ⟨m0, m1, m2⟩ := row_cell3 (unhide HS u1 (unhide HSA _ (unhide HX1).2.2)).1.box
      go_wp2_with fail
      go_loopw [5, 6] (fun y x wr => ∃ (i : Nat) (ao : Option Addr) (len cap : Nat), y = .slice ao len cap ∧ x = .int .i64 (i : Int) ∧ Hid (i ≤ n2) ∧ Hid (Row8 wr ao len cap (bodyP (partsM m 1) i) ∧ len ≤ 10 + i * 43008 ∧ Below wA.heap.size wA wr)) (fun _ x _ => n2 - (intOf x).toNat)
      case atStart => exact ⟨0, _, _, _, rfl, rfl, hide (by omega), HX1⟩
      case round =>
        clear HX1 m0 m1 m2
        obtain ⟨i, ao2, len2, cap2, rfl, rfl, HI, HX⟩ := hrel
        obtain ⟨m0, m1, m2⟩ := row_cell3 (unhide HS wr (unhide HSA _ (unhide HX).2.2)).1.box
        by_cases hlt : i < n2
        · have j1 : (i : Int) < (n2 : Int) := by omega
          have HI1 : Hid (i + 1 ≤ n2) := hide (by omega)
          obtain ⟨f, hv⟩ : ∃ v, m.fs[i]? = some v := ⟨_, List.getElem?_eq_getElem (by have := unhide HN; omega)⟩
          have hR := (unhide HP).2.1 f (List.mem_of_getElem? hv)
          obtain ⟨fp, fl, fk, ft⟩ := f
          obtain ⟨q1, q2, q3, q4, q5, q6, q7⟩ := fn_parts hR
          obtain ⟨a, rfl, _, ht, k0, k1, k2, k3⟩ := (unhide HS wr (unhide HSA _ (unhide HX).2.2)).1.mod.func i fp fl fk ft hv
          have BQ := BoxN.mk' wr #[.int .i64 fp, .int .i64 fl, .int .i64 fk, .string ft] 50
          obtain ⟨w3, hw3⟩ : ∃ w3, wr.alloc (.cells #[.int .i64 fp, .int .i64 fl, .int .i64 fk, .string ft] 50) = w3 := ⟨_, rfl⟩
          rw [hw3] at BQ
          obtain ⟨q, hq⟩ : ∃ q, wr.heap.size = q := ⟨_, rfl⟩
          have HQ : Hid (∀ u, Below w3.heap.size w3 u → u.heap[q]? = some (.cells #[.int .i64 fp, .int .i64 fl, .int .i64 fk, .string ft] 50 (0, 0)) ∧ Below wA.heap.size wA u) := hide (fun u hu => by
            have z3 := BQ.size
            have hx := (unhide HX).2.2
            exact ⟨(hu.block q (by omega)).trans (by rw [← hq]; exact BQ.row), hx.trans ((BQ.below.trans (hu.mono (by omega))).mono hx.size)⟩)
          have HXR := hide ((unhide HX).1.later BQ.below)
          obtain ⟨d0, d1, d2, d3⟩ := row_cell4 (unhide HQ w3 (Below.refl _ _)).1
          have hb1 := (unhide HX).2.1
          have e1 : IntKind.u64.wrap fp = fp := by rw [IntKind.wrap_u64]; omega
          have e2 : IntKind.u64.wrap fl = fl := by rw [IntKind.wrap_u64]; omega
          have e3 : IntKind.u64.wrap fk = fk := by rw [IntKind.wrap_u64]; omega
          have HNX : Hid (bodyP (partsM m 1) i ++ encF 9 fp ++ encF 9 fl ++ encF 9 fk ++ (encF 9 (ft.size : Int) ++ nums ft) = bodyP (partsM m 1) (i + 1)) := hide (by
            rw [bodyP_next (partsM m 1) i (encFn (fp, fl, fk, ft)) (by simp [partsM, hv])]
            simp [encFn])
          have D1 := hide (refUint_row ao2 len2 cap2 fp fp _ w3 rfl (unhide HXR) (by omega) (by omega) (by omega))
          have HB1 := hide hb1
          clear hv hR hb1 BQ HXR
          go_wp2_with fail
          refine (unhide D1).mono ?_
          rintro e v1 ⟨g1, z1, L1, rfl, r1, _, b1, _, hL1⟩
          have HV1 := hide b1
          clear b1 D1 d0 d1 d2 d3
          obtain ⟨d0, d1, d2, d3⟩ := row_cell4 (unhide HQ v1 (unhide HV1)).1
          have D2 := hide (refUint_row (some ⟨g1, 0, none⟩) L1 z1 fl fl _ v1 rfl r1 (by have := unhide HB1; omega) (by omega) (by omega))
          clear r1
          go_wp2_with fail
          refine (unhide D2).mono ?_
          rintro e v2 ⟨g2, z2, L2, rfl, r2, _, b2, _, hL2⟩
          have HV2 := hide ((unhide HV1).trans (b2.mono (unhide HV1).size))
          clear b2 D2 d0 d1 d2 d3
          obtain ⟨d0, d1, d2, d3⟩ := row_cell4 (unhide HQ v2 (unhide HV2)).1
          have D3 := hide (refUint_row (some ⟨g2, 0, none⟩) L2 z2 fk fk _ v2 rfl r2 (by have := unhide HB1; omega) (by omega) (by omega))
          clear r2
          go_wp2_with fail
          refine (unhide D3).mono ?_
          rintro e v3 ⟨g3, z3, L3, rfl, r3, _, b3, _, hL3⟩
          have HV3 := hide ((unhide HV2).trans (b3.mono (unhide HV2).size))
          clear b3 D3 d0 d1 d2 d3
          obtain ⟨d0, d1, d2, d3⟩ := row_cell4 (unhide HQ v3 (unhide HV3)).1
          have D4 := hide (refText_row (some ⟨g3, 0, none⟩) L3 z3 ft _ v3 r3 (by have := unhide HB1; omega) (by omega))
          clear r3
          go_wp2_with fail
          refine (unhide D4).mono ?_
          rintro e v4 ⟨g4, z4, L4, rfl, r4, _, b4, _, hL4⟩
          have HX2 : Hid (Row8 v4 (some ⟨g4, 0, none⟩) L4 z4 (bodyP (partsM m 1) (i + 1)) ∧ L4 ≤ 10 + (i + 1) * 43008 ∧ Below wA.heap.size wA v4) := hide ⟨row_cast r4 (unhide HNX), by have := unhide HB1; omega, (unhide HQ _ ((unhide HV3).trans (b4.mono (unhide HV3).size))).2⟩
          clear r4 b4 D4 d0 d1 d2 d3 hL1 hL2 hL3 hL4
          go_wp2_with fail
          go_roundw
          case rel => exact ⟨i + 1, _, _, _, rfl, by go_num, HI1, HX2⟩
          case measure => have := unhide HI1; simp [intOf]; omega
        · have j1 : ¬ (i : Int) < (n2 : Int) := by omega
          have HY2 : Hid (Row8 wr ao2 len2 cap2 (bodyM (partsM m 1)) ∧ len2 ≤ 5000000 ∧ Below wA.heap.size wA wr) := hide ⟨row_cast (unhide HX).1 (by
            have e : i = (partsM m 1).length := by have := unhide HI; have := (unhide HL0).2.1; omega
            rw [e, bodyP_all]), by have := (unhide HX).2.1; have := unhide HI; omega, (unhide HX).2.2⟩
          have C3 := hide (refUint_row none 0 0 (n3 : Int) (n3 : Int) [] wr rfl (nilRow _) (by omega) (by omega) (by omega))
          clear HX HI
          go_wp2_with fail
          refine (unhide C3).mono ?_
          rintro e u1 ⟨g1, k1, L1, rfl, r1, hg1, b1, hl1, hL1⟩
          have HX1 : Hid (Row8 u1 (some ⟨g1, 0, none⟩) L1 k1 (bodyP (partsM m 2) 0) ∧ L1 ≤ 10 + 0 * 43008 ∧ Below wr.heap.size wr u1) := hide ⟨row_cast r1 (by rw [bodyP_zero, (unhide HL0).2.2]; rfl), by omega, b1⟩
          obtain ⟨wC, hwC⟩ : ∃ wC, wC = wr := ⟨_, rfl⟩
          subst hwC
          clear C3 r1 hg1 b1 hl1 hL1 m0 m1 m2
          have HSC : Hid (∀ u, Below wC.heap.size wC u → Below w1.heap.size w1 u) := hide (fun u hu => unhide HSA _ ((unhide HY2).2.2.trans (hu.mono (unhide HY2).2.2.size)))
          obtain ⟨m0, m1, m2⟩ := row_cell3 (unhide HS u1 (unhide HSC _ (unhide HX1).2.2)).1.box
          go_wp2_with fail
          go_loopw [8, 9] (fun y x wr => ∃ (i : Nat) (ao : Option Addr) (len cap : Nat), y = .slice ao len cap ∧ x = .int .i64 (i : Int) ∧ Hid (i ≤ n3) ∧ Hid (Row8 wr ao len cap (bodyP (partsM m 2) i) ∧ len ≤ 10 + i * 43008 ∧ Below wC.heap.size wC wr)) (fun _ x _ => n3 - (intOf x).toNat)
          case atStart => exact ⟨0, _, _, _, rfl, rfl, hide (by omega), HX1⟩
          case round =>
            clear HX1 m0 m1 m2
            obtain ⟨i, ao3, len3, cap3, rfl, rfl, HI, HX⟩ := hrel
            obtain ⟨m0, m1, m2⟩ := row_cell3 (unhide HS wr (unhide HSC _ (unhide HX).2.2)).1.box
            by_cases hlt : i < n3
            · have j1 : (i : Int) < (n3 : Int) := by omega
              have HI1 : Hid (i + 1 ≤ n3) := hide (by omega)
              obtain ⟨x, hv⟩ : ∃ v, m.xs[i]? = some v := ⟨_, List.getElem?_eq_getElem (by have := unhide HN; omega)⟩
              have hR := (unhide HP).2.2 x (List.mem_of_getElem? hv)
              obtain ⟨s, f⟩ := x
              dsimp only at hR
              obtain ⟨q1, q2, q3⟩ := hR
              rw [(unhide HN).2.1] at q3
              obtain ⟨a, rfl, _, ht, k0, k1⟩ := (unhide HS wr (unhide HSC _ (unhide HX).2.2)).1.mod.exp i s f hv
              have hb1 := (unhide HX).2.1
              have e1 : IntKind.u64.wrap f = f := by rw [IntKind.wrap_u64]; omega
              have HNX : Hid (bodyP (partsM m 2) i ++ (encF 9 (s.size : Int) ++ nums s) ++ encF 9 f = bodyP (partsM m 2) (i + 1)) := hide (by
                rw [bodyP_next (partsM m 2) i (encEx (s, f)) (by simp [partsM, hv])]
                simp [encEx])
              have HXP : Hid (∀ u, Below wr.heap.size wr u → u.heap[g]? = some (.cells #[.slice a1 n1 c1, .slice a2 n2 c2, .slice (some a) n3 c3] 27 (0, 0)) ∧ u.cell? (a.add (i * 2)) = some (.string s) ∧ u.cell? ⟨(a.add (i * 2)).block, (a.add (i * 2)).off + 1, none⟩ = some (.int .i64 f)) := hide (fun u hu => ⟨(unhide HS u (unhide HSC _ ((unhide HX).2.2.trans (hu.mono (unhide HX).2.2.size)))).1.box, cell_later hu k0, cell_later hu k1⟩)
              have D1 := hide (refText_row ao3 len3 cap3 s _ wr (unhide HX).1 (by omega) (by omega))
              have HB1 := hide hb1
              clear hv hb1
              go_wp2_with fail
              refine (unhide D1).mono ?_
              rintro e v1 ⟨g1, z1, L1, rfl, r1, _, b1, _, hL1⟩
              have HV1 := hide b1
              clear b1 D1 k0 k1 m0 m1 m2
              obtain ⟨bx, k0, k1⟩ := unhide HXP v1 (unhide HV1)
              obtain ⟨m0, m1, m2⟩ := row_cell3 bx
              have D2 := hide (refUint_row (some ⟨g1, 0, none⟩) L1 z1 f f _ v1 rfl r1 (by have := unhide HB1; omega) (by omega) (by omega))
              clear r1 bx
              go_wp2_with fail
              refine (unhide D2).mono ?_
              rintro e v2 ⟨g2, z2, L2, rfl, r2, _, b2, _, hL2⟩
              have HX2 : Hid (Row8 v2 (some ⟨g2, 0, none⟩) L2 z2 (bodyP (partsM m 2) (i + 1)) ∧ L2 ≤ 10 + (i + 1) * 43008 ∧ Below wC.heap.size wC v2) := hide ⟨row_cast r2 (unhide HNX), by have := unhide HB1; omega, (unhide HX).2.2.trans (((unhide HV1).trans (b2.mono (unhide HV1).size)).mono (unhide HX).2.2.size)⟩
              clear r2 b2 D2 k0 k1 m0 m1 m2 hL1 hL2
              go_wp2_with fail
              go_roundw
              case rel => exact ⟨i + 1, _, _, _, rfl, by go_num, HI1, HX2⟩
              case measure => have := unhide HI1; simp [intOf]; omega
            · have j1 : ¬ (i : Int) < (n3 : Int) := by omega
              have HY3 : Hid (Row8 wr ao3 len3 cap3 (bodyM (partsM m 2)) ∧ len3 ≤ 5000000 ∧ Below wC.heap.size wC wr) := hide ⟨row_cast (unhide HX).1 (by
                have e : i = (partsM m 2).length := by have := unhide HI; have := (unhide HL0).2.2; omega
                rw [e, bodyP_all]), by have := (unhide HX).2.1; have := unhide HI; omega, (unhide HX).2.2⟩
              have HP1 : Hid (0 < len ∧ 0 < len2 ∧ 0 < len3) := hide ⟨by rw [← (unhide HY1).1.length]; exact bodyM_pos _, by rw [← (unhide HY2).1.length]; exact bodyM_pos _, by rw [← (unhide HY3).1.length]; exact bodyM_pos _⟩
              obtain ⟨ad1, rfl⟩ := (unhide HY1).1.some8 (unhide HP1).1
              obtain ⟨ad2, rfl⟩ := (unhide HY2).1.some8 (unhide HP1).2.1
              obtain ⟨ad3, rfl⟩ := (unhide HY3).1.some8 (unhide HP1).2.2
              have HR : Hid (∀ u, Below wr.heap.size wr u → Row8 u (some ad1) len cap (bodyM (partsM m 0)) ∧ Row8 u (some ad2) len2 cap2 (bodyM (partsM m 1)) ∧ Row8 u (some ad3) len3 cap3 (bodyM (partsM m 2)) ∧ Below w.heap.size w u) := hide (fun u hu => by
                have hC := (unhide HY3).2.2
                have hCu := hC.trans (hu.mono hC.size)
                have hA := (unhide HY2).2.2
                have hAu := hA.trans (hCu.mono hA.size)
                exact ⟨(unhide HY1).1.later hAu, (unhide HY2).1.later hCu, (unhide HY3).1.later hu, (unhide HS u (unhide HSC _ hCu)).2⟩)
              have HLB : Hid (len ≤ 5000000 ∧ len2 ≤ 5000000 ∧ len3 ≤ 5000000) := hide ⟨(unhide HY1).2.1, (unhide HY2).2.1, (unhide HY3).2.1⟩
              have HLE : Hid (len = (bodyM (partsM m 0)).length ∧ len2 = (bodyM (partsM m 1)).length ∧ len3 = (bodyM (partsM m 2)).length) := hide ⟨(unhide HY1).1.length.symm, (unhide HY2).1.length.symm, (unhide HY3).1.length.symm⟩
              have HBK : Hid (ad1.block < wr.heap.size ∧ ad2.block < wr.heap.size ∧ ad3.block < wr.heap.size) := hide (by
                obtain ⟨q1, q2, q3, _⟩ := unhide HR wr (Below.refl _ _)
                exact ⟨q1.block _ rfl (unhide HP1).1, q2.block _ rfl (unhide HP1).2.1, q3.block _ rfl (unhide HP1).2.2⟩)
              have kc := fun (w : World) (C : Array Value) (n c : Nat) => Lib.run_convert_bytes_const (P := Tryz.prog) w 59 5 C n c Tryz.underlying59 Tryz.underlying5
              clear HX HI HY1 HY2 HY3
              go_wp2_with fail
              clear kc
              obtain ⟨R1, b2⟩ := head_rowM wr (4, 5)
              obtain ⟨wD, hwD⟩ : ∃ wD, wr.alloc (.cells #[.int .u8 83, .int .u8 67, .int .u8 77, .int .u8 49] 5 (4, 5)) = wD := ⟨_, rfl⟩
              rw [hwD] at R1 b2 ⊢
              obtain ⟨gh, hgh⟩ : ∃ gh, wr.heap.size = gh := ⟨_, rfl⟩
              rw [hgh] at R1 ⊢
              have hlt4 : gh < wD.heap.size := R1.block _ rfl (by omega)
              have HD := hide b2
              obtain ⟨q1, q2, q3, q4⟩ := unhide HR wD b2
              have S1 := hide (section_any wr.heap.size 0 (.slice (some ⟨gh, 0, none⟩) 4 4) headM 1 ad1 len cap _ wD (Or.inl ⟨rfl, gh, rfl, by omega, hlt4, R1⟩) (unhide HOS 0 (by omega)) (by simp [headM]) b2.size (by omega) (by omega) q1 (unhide HP1).1 (fun e => by have := own_slice e.symm; have := (unhide HBK).1; omega) (by have := (unhide HLB).1; simp [headM]; omega))
              clear R1 b2 q1 q2 q3 q4 hwD
              refine (unhide S1).mono ?_
              rintro e wE ⟨gE, cE, LE, rfl, oE, hgE, grE⟩
              have HE : Hid (wE.ownsRow wD.heap.size 5 1 (.slice (some ⟨gE, 0, none⟩) LE cE) LE ((outM m 1).map (Value.int .u8)) ∧ Below wr.heap.size wr wE) := hide ⟨by
                have e : outM m 1 = headM ++ (1 :: (encF 9 (len : Int) ++ bodyM (partsM m 0))) := by show headM ++ secM 0 (partsM m 0) = _; unfold secM; rw [(unhide HLE).1]; rfl
                rw [e]; exact oE, ⟨grE.grown.os.trans (unhide HD).os, grE.grown.tape.trans (unhide HD).tape, grE.grown.output.trans (unhide HD).output, Nat.le_trans (unhide HD).size grE.grown.size, fun k hk => (grE.far (Nat.lt_of_lt_of_le hk (unhide HD).size) (fun e => by have := own_slice e.symm; omega)).trans ((unhide HD).block k hk)⟩⟩
              have HEL : Hid (LE = (outM m 1).length) := hide (by have := (unhide HE).1.1; simpa using this.symm)
              have hEg : Hid (wr.heap.size ≤ gE ∧ wD.heap.size ≤ wE.heap.size ∧ wr.heap.size ≤ wD.heap.size) := hide ⟨by have := (unhide HD).size; omega, grE.grown.size, (unhide HD).size⟩
              have HZ1 : Hid ((outM m 1).length ≤ 6000000 ∧ 0 < (outM m 1).length) := hide (by
                have e : (outM m 1).length = 4 + (1 + ((encF 9 ((bodyM (partsM m 0)).length : Int)).length + (bodyM (partsM m 0)).length)) := by
                  show (headM ++ secM 0 (partsM m 0)).length = _
                  simp [secM, headM]
                  omega
                have := (encF_len 9 ((bodyM (partsM m 0)).length : Int)).2
                have := (unhide HLE).1
                have := (unhide HLB).1
                omega)
              clear oE grE hgE S1
              have S2 := hide (section_any wD.heap.size 1 (.slice (some ⟨gE, 0, none⟩) LE cE) (outM m 1) 2 ad2 len2 cap2 _ wE (Or.inr ⟨by omega, by have := (unhide HE).1; rw [← unhide HEL]; exact this⟩) (unhide HOS 1 (by omega)) (unhide HZ1).2 (unhide hEg).2.1 (by omega) (by omega) (unhide HR wE (unhide HE).2).2.1 (unhide HP1).2.1 (fun e => by have := own_slice e.symm; have := (unhide HBK).2.1; have := (unhide hEg).1; omega) (by have := (unhide HLB).2.1; have := (unhide HZ1).1; omega))
              go_wp2_with fail
              refine (unhide S2).mono ?_
              rintro e wF ⟨gF, cF, LF, rfl, oF, hgF, grF⟩
              have HF : Hid (wF.ownsRow wE.heap.size 5 1 (.slice (some ⟨gF, 0, none⟩) LF cF) LF ((outM m 2).map (Value.int .u8)) ∧ Below wr.heap.size wr wF) := hide ⟨by
                have e : outM m 2 = outM m 1 ++ (2 :: (encF 9 (len2 : Int) ++ bodyM (partsM m 1))) := by show outM m 1 ++ secM 1 (partsM m 1) = _; unfold secM; rw [(unhide HLE).2.1]; rfl
                rw [e]; exact oF, ⟨grF.grown.os.trans (unhide HE).2.os, grF.grown.tape.trans (unhide HE).2.tape, grF.grown.output.trans (unhide HE).2.output, Nat.le_trans (unhide HE).2.size grF.grown.size, fun k hk => (grF.far (Nat.lt_of_lt_of_le hk (unhide HE).2.size) (fun e => by have := own_slice e.symm; have := (unhide hEg).1; omega)).trans ((unhide HE).2.block k hk)⟩⟩
              have HFL : Hid (LF = (outM m 2).length) := hide (by have := (unhide HF).1.1; simpa using this.symm)
              have hFg : Hid (wr.heap.size ≤ gF ∧ wE.heap.size ≤ wF.heap.size ∧ wr.heap.size ≤ wE.heap.size) := hide ⟨by have := (unhide HE).2.size; omega, grF.grown.size, (unhide HE).2.size⟩
              have HZ2 : Hid ((outM m 2).length ≤ 12000000 ∧ 0 < (outM m 2).length) := hide (by
                have e : (outM m 2).length = (outM m 1).length + (1 + ((encF 9 ((bodyM (partsM m 1)).length : Int)).length + (bodyM (partsM m 1)).length)) := by
                  show (outM m 1 ++ secM 1 (partsM m 1)).length = _
                  simp [secM]
                  omega
                have := (encF_len 9 ((bodyM (partsM m 1)).length : Int)).2
                have := (unhide HLE).2.1
                have := (unhide HLB).2.1
                have := (unhide HZ1).1
                omega)
              clear oF grF hgF S2
              have S3 := hide (section_any wE.heap.size 2 (.slice (some ⟨gF, 0, none⟩) LF cF) (outM m 2) 3 ad3 len3 cap3 _ wF (Or.inr ⟨by omega, by have := (unhide HF).1; rw [← unhide HFL]; exact this⟩) (unhide HOS 2 (by omega)) (unhide HZ2).2 (unhide hFg).2.1 (by omega) (by omega) (unhide HR wF (unhide HF).2).2.2.1 (unhide HP1).2.2 (fun e => by have := own_slice e.symm; have := (unhide HBK).2.2; have := (unhide hFg).1; omega) (by have := (unhide HLB).2.2; have := (unhide HZ2).1; omega))
              go_wp2_with fail
              refine (unhide S3).mono ?_
              rintro e wG ⟨gG, cG, LG, rfl, oG, hgG, grG⟩
              have HG : Hid (wG.ownsRow wF.heap.size 5 1 (.slice (some ⟨gG, 0, none⟩) LG cG) LG ((encM m).map (Value.int .u8)) ∧ Below wr.heap.size wr wG) := hide ⟨by
                have e : encM m = outM m 2 ++ (3 :: (encF 9 (len3 : Int) ++ bodyM (partsM m 2))) := by show outM m 2 ++ secM 2 (partsM m 2) = _; unfold secM; rw [(unhide HLE).2.2]; rfl
                rw [e]; exact oG, ⟨grG.grown.os.trans (unhide HF).2.os, grG.grown.tape.trans (unhide HF).2.tape, grG.grown.output.trans (unhide HF).2.output, Nat.le_trans (unhide HF).2.size grG.grown.size, fun k hk => (grG.far (Nat.lt_of_lt_of_le hk (unhide HF).2.size) (fun e => by have := own_slice e.symm; have := (unhide hFg).1; omega)).trans ((unhide HF).2.block k hk)⟩⟩
              have HGL : Hid (LG = (encM m).length) := hide (by have := (unhide HG).1.1; simpa using this.symm)
              clear oG grG hgG S3
              go_wp2_with fail
              go_ret
              have hbw := (unhide HR wG (unhide HG).2).2.2.2
              have hlow := (unhide HR wF (unhide HF).2).2.2.2.size
              rw [← unhide HGL]
              refine ⟨gG, cG, rfl, own_low (unhide HG).1 ?_, ?_⟩
              · first | exact hlow | (rw [← hg]; exact hlow)
              · first | exact hbw | (rw [← hg]; exact hbw)
end Go.Proofs.YtcknoeepdjhnoaaGreatDoor
