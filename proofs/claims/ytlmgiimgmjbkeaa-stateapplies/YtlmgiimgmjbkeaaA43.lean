/-
  The walk of the document's Apply; conditions: the form's own reach.
-/
import Derived.Test.YtlmgiimgmjbkeaaA42
import Derived.Test.YtlmgiimgmjbkeaaA36
import Derived.Test.YtlmgiimgmjbkeaaA23
set_option linter.unusedVariables false
set_option linter.unusedSimpArgs false
namespace Go.Proofs.Ytlmgiimgmjbkeaa
open Go.RowKit Go.Shelf
set_option linter.unusedVariables false
set_option linter.unusedSimpArgs false

theorem below_drew_to3 {B : Nat} {a w : World} (h : Below B a w) : Below B a w.drew := ⟨h.os, h.tape, h.output, h.size, h.block⟩
theorem below_drew3 {B : Nat} {a w : World} (h : Below B a w) (q : Nat) : Below B a (w.drewN q) := ⟨h.os, h.tape, h.output, h.size, h.block⟩

theorem ap_key (P : ByteArray → Prop) : ∀ (f : Nat) (a : List En) (c : List Ch), (∀ e ∈ a, P e.1) → (∀ d ∈ c, P d.1) → ∀ e ∈ apL f a c, P e.1
  | 0, a, c, _, _, e, he => by cases he
  | f + 1, [], [], _, _, e, he => by rw [(ap_nil _).1] at he; cases he
  | f + 1, x :: r, [], ha, hc, e, he => by
    rw [(ap_left _ _ _).1] at he
    rcases List.mem_cons.1 he with rfl | he
    · exact ha _ List.mem_cons_self
    · exact ap_key P f r [] (fun z hz => ha z (List.mem_cons_of_mem _ hz)) hc e he
  | f + 1, [], (k, g, v) :: s, ha, hc, e, he => by
    rw [(ap_right _ _ _).1, List.mem_append] at he
    rcases he with he | he
    · cases g with
      | true => rw [outA_gone] at he; cases he
      | false => rw [outA_put, List.mem_singleton] at he; subst he; exact hc _ List.mem_cons_self
    · exact ap_key P f [] s ha (fun z hz => hc z (List.mem_cons_of_mem _ hz)) e he
  | f + 1, x :: r, (k, g, v) :: s, ha, hc, e, he => by
    have ha' := fun z hz => ha z (List.mem_cons_of_mem _ hz)
    have hc' := fun z hz => hc z (List.mem_cons_of_mem _ hz)
    have hout : ∀ o, e ∈ outA (o, some (k, g, v)) → P e.1 := fun o ho => by
      cases g with
      | true => rw [outA_gone] at ho; cases ho
      | false => rw [outA_put, List.mem_singleton] at ho; subst ho; exact hc _ List.mem_cons_self
    rw [(ap_cons _ _ _ _ _).1] at he
    split at he
    · rcases List.mem_append.1 he with he | he
      · exact hout _ he
      · exact ap_key P f (x :: r) s ha hc' e he
    · split at he
      · rcases List.mem_cons.1 he with rfl | he
        · exact ha _ List.mem_cons_self
        · exact ap_key P f r _ ha' hc e he
      · rcases List.mem_append.1 he with he | he
        · exact hout _ he
        · exact ap_key P f r s ha' hc' e he

/-- what is so while the document's Apply goes through the changes -/
def RaI (w W : World) (es : List En) (cs : List Ch) (AP : List En) (sv : Value) (q i k : Nat) : Prop := ∃ xs, EnN W w.heap.size sv xs ∧ xs.length = q ∧ q ≤ i + k ∧ xs.map enOf ++ apL (es.length + cs.length - (i + k)) (es.drop i) (cs.drop k) = AP ∧ Below w.heap.size w W

set_option maxRecDepth 100000 in
set_option maxHeartbeats 32000000 in
theorem applyR_right (es : List En) (cs : List Ch) (al bl : Option Addr) (n cl m ck B : Nat) (w : World) (hn : es.length = n) (hm : cs.length = m) (h : IsE w (fun b => b < B) es al cl) (h' : IsH w (fun b => b < B) cs bl ck) (hB : B ≤ w.heap.size) (hR : rightE es = true) (hm256 : m ≤ 256) :
    Calls Try.prog 15 #[.slice al n cl, .slice bl m ck] w fun e w' => ∃ sv xs, e = .returned (.tuple #[sv, .int .i64 (codeA es cs)]) ∧ EnN w' w.heap.size sv xs ∧ xs.map enOf = applyL es cs ∧ Below w.heap.size w w' := by
  have hn128 := (right_len hR).1
  rw [hn] at hn128
  have C1 := rightRs_any es al n cl B w hn h hB
  rw [hR] at C1
  have HC1 := hide C1
  have HE : Hid (IsE w (fun b => b < B) es al cl) := hide h
  have HF : Hid (IsH w (fun b => b < B) cs bl ck) := hide h'
  have HRE : Hid (∀ e ∈ es, entB e = true) := hide (right_len hR).2
  have HRr := hide hR
  have HN := hide (And.intro hn hm)
  have HBB := hide hB
  have HK1 : Hid (stepsE ((keysH cs).take (0 + 1)) = true) := hide (by cases keysH cs <;> simp [stepsE])
  obtain ⟨AP, hAP⟩ : ∃ AP, apL (n + m) es cs = AP := ⟨_, rfl⟩
  have HD0 : Hid (apL (es.length + cs.length - (0 + 0)) (es.drop 0) (cs.drop 0) = AP) := hide (by rw [← hAP, hn, hm]; rfl)
  have HKY : Hid (∀ e ∈ AP, e.1.size ≤ 140737488351232) := hide (by
    obtain ⟨V, hV⟩ := h
    obtain ⟨V', hV'⟩ := h'
    rw [← hAP]
    exact ap_key (fun k => k.size ≤ 140737488351232) _ es cs hV.bt hV'.bt)
  obtain ⟨cd, hcd⟩ : ∃ cd, codeA es cs = cd := ⟨_, rfl⟩
  obtain ⟨AL, hAL⟩ : ∃ AL, applyL es cs = AL := ⟨_, rfl⟩
  have HCD : Hid (codeA es cs = 73 → cd = 73 ∧ AL = []) := hide (fun hc => ⟨by rw [← hcd, hc], by rw [← hAL]; unfold applyL; rw [hc]; rfl⟩)
  have HCF : Hid (stepsE (keysH cs) = true ∧ (∀ c ∈ cs, ∃ r, FindR es c.1 r ∧ fitsR es c.2.1 c.2.2 r = true) → cd = (if rightE AP then 0 else 73) ∧ AL = (if rightE AP then AP else [])) := hide (fun hc => by
    have h1 := code_fit hR hc.1 hc.2
    rw [hn, hm, hAP] at h1
    refine ⟨by rw [← hcd, h1], ?_⟩
    rw [← hAL]
    unfold applyL
    rw [h1, hn, hm, hAP]
    cases rightE AP <;> rfl)
  rw [hcd, hAL]
  have xe : ∀ i, i < n → ∃ xk xv, es[i]? = some (xk, xv) := fun i hl => ⟨_, _, List.getElem?_eq_getElem (by omega)⟩
  clear h h' hR C1 hn hm hB hAP hcd hAL
  have j0 : ¬ (256 : Int) < (m : Int) := by omega
  go_enter Try.func15, Try.ntmps15
  go_wp2_with fail
  refine (unhide HC1).mono ?_
  rintro e u0 ⟨rfl, b0⟩
  have B0 := hide b0
  clear b0 HC1
  go_wp2_with fail
  go_loopw [7, 8, 9] (fun y x z wr => ∃ (i k : Nat) (so : Option Addr) (q sc : Nat), y = .slice so q sc ∧ x = .int .i64 (i : Int) ∧ z = .int .i64 (k : Int) ∧ Hid (i ≤ n ∧ k ≤ m) ∧ Hid (stepsE ((keysH cs).take k) = true ∧ ∀ c ∈ cs.take k, ∃ r, FindR es c.1 r ∧ fitsR es c.2.1 c.2.2 r = true) ∧ Hid (RaI w wr es cs AP (.slice so q sc) q i k)) (fun _ _ z _ => m - (intOf z).toNat)
  case atStart => exact ⟨0, 0, none, 0, 0, rfl, rfl, rfl, hide ⟨by omega, by omega⟩, hide ⟨by simp [stepsE], fun c hc => by simp at hc⟩, hide ⟨[], EnN.nil _ _, rfl, by omega, by rw [List.map_nil, List.nil_append]; exact unhide HD0, unhide B0⟩⟩
  case round =>
    obtain ⟨i, k, so, q, sc, rfl, rfl, rfl, HI1, HST0, HX⟩ := hrel
    have hi0 := (unhide HI1).1
    have hk0 := (unhide HI1).2
    have HX0 : Hid (Below w.heap.size w wr) := hide (by obtain ⟨xs, h2, hq, hqi, h3, h5⟩ := unhide HX; exact h5)
    by_cases hkm : k < m
    · obtain ⟨⟨yk, gg, yv⟩, hy⟩ : ∃ c, cs[k]? = some c := ⟨_, List.getElem?_eq_getElem (by have := unhide HN; omega)⟩
      obtain ⟨b, y0, y1, y2, y3, y6, y4, y7, y5, y8, rfl, hbb, _, hcy, hpy⟩ := (unhide HF).elem k _ hy
      dsimp only at hcy hpy
      have HYw : Hid (w.cell? (b.add (k * 7)) = some (.string yk) ∧ w.cell? ⟨(b.add (k * 7)).block, (b.add (k * 7)).off + 1, none⟩ = some (.bool gg) ∧ w.cell? ⟨(b.add (k * 7)).block, (b.add (k * 7)).off + 2, none⟩ = some (.int .i64 y0) ∧ w.cell? ⟨(b.add (k * 7)).block, (b.add (k * 7)).off + 3, none⟩ = some (.int .i64 y1) ∧ w.cell? ⟨(b.add (k * 7)).block, (b.add (k * 7)).off + 4, none⟩ = some (.string y2) ∧ w.cell? ⟨(b.add (k * 7)).block, (b.add (k * 7)).off + 5, none⟩ = some (.slice y3 y4 y5) ∧ w.cell? ⟨(b.add (k * 7)).block, (b.add (k * 7)).off + 6, none⟩ = some (.slice y6 y7 y8)) := hide ⟨hcy 0 _ rfl, hcy 1 _ rfl, hcy 2 _ rfl, hcy 3 _ rfl, hcy 4 _ rfl, hcy 5 _ rfl, hcy 6 _ rfl⟩
      have HVY : Hid (IsV w B yv (.agg #[.int .i64 y0, .int .i64 y1, .string y2, .slice y3 y4 y5, .slice y6 y7 y8])) := hide hpy
      have HBb : Hid (b.block < B) := hide hbb
      have HY := hide hy
      clear hcy hpy hbb hy
      have j2 : (k : Int) < (m : Int) := by omega
      have z0 : wr.cell? (b.add (k * 7)) = some (.string yk) := cell_later (unhide HX0) ((unhide HYw).1)
      have z1 : wr.cell? ⟨(b.add (k * 7)).block, (b.add (k * 7)).off + 1, none⟩ = some (.bool gg) := cell_later (unhide HX0) ((unhide HYw).2.1)
      have z2 : wr.cell? ⟨(b.add (k * 7)).block, (b.add (k * 7)).off + 2, none⟩ = some (.int .i64 y0) := cell_later (unhide HX0) ((unhide HYw).2.2.1)
      have z3 : wr.cell? ⟨(b.add (k * 7)).block, (b.add (k * 7)).off + 3, none⟩ = some (.int .i64 y1) := cell_later (unhide HX0) ((unhide HYw).2.2.2.1)
      have z4 : wr.cell? ⟨(b.add (k * 7)).block, (b.add (k * 7)).off + 4, none⟩ = some (.string y2) := cell_later (unhide HX0) ((unhide HYw).2.2.2.2.1)
      have z5 : wr.cell? ⟨(b.add (k * 7)).block, (b.add (k * 7)).off + 5, none⟩ = some (.slice y3 y4 y5) := cell_later (unhide HX0) ((unhide HYw).2.2.2.2.2.1)
      have z6 : wr.cell? ⟨(b.add (k * 7)).block, (b.add (k * 7)).off + 6, none⟩ = some (.slice y6 y7 y8) := cell_later (unhide HX0) ((unhide HYw).2.2.2.2.2.2)
      have CF := hide (fits_anyR es yk gg yv y0 y1 y2 y3 y4 y5 y6 y7 y8 al n cl B wr (unhide HN).1 ((unhide HE).later ((unhide HX0).mono (unhide HBB))) (IsV.mono ((unhide HX0).mono (unhide HBB)) (unhide HVY)) (Nat.le_trans (unhide HBB) (unhide HX0).size))
      go_wp2_with fail
      refine (unhide CF).mono ?_
      rintro e u1 ⟨r, rfl, hfr, b1⟩
      have B1 : Hid (Below wr.heap.size wr u1) := hide b1
      have HB1 : Hid (Below w.heap.size w u1) := hide ((unhide HX0).trans (b1.mono (unhide HX0).size))
      have HFR := hide hfr
      clear b1 hfr CF z0 z1 z2 z3 z4 z5 z6
      obtain ⟨ft, hft⟩ : ∃ ft, fitsR es gg yv r = ft := ⟨_, rfl⟩
      have HFT := hide hft
      rw [hft]
      clear hft
      cases ft with
      | false =>
        have hmem : (yk, gg, yv) ∈ cs := List.mem_of_getElem? (unhide HY)
        go_upto_region 12 with fail
        go_quiet (fail)
        have HFC : Hid (cd = 73 ∧ AL = []) := hide (unhide HCD (code_unfit (unhide HRr) hmem (unhide HFR) (unhide HFT)))
        clear hmem
        go_wp2_with fail
        go_ret2
        first
          | exact ⟨_, [], by rw [(unhide HFC).1]; rfl, EnN.nil _ _, by rw [(unhide HFC).2]; rfl, below_drew3 (unhide HB1) _⟩
          | exact ⟨_, by rw [(unhide HFC).1]; rfl, [], EnN.nil _ _, by rw [(unhide HFC).2]; rfl, below_drew3 (unhide HB1) _⟩
      | true =>
        have u0 : u1.cell? (b.add (k * 7)) = some (.string yk) := cell_later (unhide HB1) ((unhide HYw).1)
        have HYR0 : Hid (gg = false → rightB yv = true) := hide (fun hg => by have := unhide HFT; rw [hg] at this; unfold fitsR at this; rw [if_neg (by decide), Bool.and_eq_true] at this; exact this.1)
        have HJ : Hid (∀ j, j + 1 = k → ∃ p, (keysH cs)[j]? = some p ∧ u1.cell? (b.add (j * 7)) = some (.string p) ∧ stepsE ((keysH cs).take (k + 1)) = Op.bytesLess p.toList yk.toList) := hide (by
          intro j hj
          obtain ⟨e0, he0⟩ : ∃ e0, cs[j]? = some e0 := ⟨_, List.getElem?_eq_getElem (by have := unhide HN; omega)⟩
          obtain ⟨b', _, _, _, _, _, _, _, _, _, hb', _, _, hd, _⟩ := (unhide HF).elem j e0 he0
          cases hb'
          have hp1 : (keysH cs)[j]? = some e0.1 := by simp [keysH, he0]
          refine ⟨e0.1, hp1, cell_later (unhide HB1) (hd 0 _ rfl), ?_⟩
          have := stepsE_next (keysH cs) j e0.1 yk hp1 (by rw [hj]; simp [keysH, unhide HY])
          rw [show j + 2 = k + 1 by omega, show j + 1 = k by omega, (unhide HST0).1, Bool.true_and] at this
          exact this)
        cases hst : stepsE ((keysH cs).take (k + 1)) with
        | false =>
          obtain ⟨j, hii⟩ : ∃ j, j + 1 = k := ⟨k - 1, by
            have : k ≠ 0 := fun h0 => by rw [h0, unhide HK1] at hst; cases hst
            omega⟩
          obtain ⟨p, hp1, y00, hps⟩ := unhide HJ j hii
          rw [hst] at hps
          have i2 : IntKind.i64.wrap ((k : Int) - 1) = (j : Int) := by rw [IntKind.wrap_i64]; omega
          have i3 : (j : Int) < (m : Int) := by omega
          have i4 : (0 : Int) < (k : Int) := by omega
          have i5 : decide (0 < k) = true := decide_eq_true (by omega)
          have i6 : decide ((0 : Int) < (k : Int)) = true := decide_eq_true i4
          have b2 := bl_not p.toList yk.toList
          rw [← hps] at b2
          have b3 : (Op.bytesLess yk.toList p.toList || yk.toList == p.toList) = true := by cases h : (Op.bytesLess yk.toList p.toList || yk.toList == p.toList) with | true => rfl | false => rw [h] at b2; cases b2
          have HBad := hide (steps_bad _ _ hst)
          clear b2 hps hst hp1 hii
          go_upto_region 12 with fail
          go_quiet (fail)
          have HFC : Hid (cd = 73 ∧ AL = []) := hide (unhide HCD (code_steps (unhide HRr) (unhide HBad)))
          clear HBad
          go_wp2_with fail
          go_ret2
          first
            | exact ⟨_, [], by rw [(unhide HFC).1]; rfl, EnN.nil _ _, by rw [(unhide HFC).2]; rfl, below_drew3 (unhide HB1) _⟩
            | exact ⟨_, by rw [(unhide HFC).1]; rfl, [], EnN.nil _ _, by rw [(unhide HFC).2]; rfl, below_drew3 (unhide HB1) _⟩
        | true =>
          have HST : Hid (stepsE ((keysH cs).take (k + 1)) = true ∧ ∀ c ∈ cs.take (k + 1), ∃ r, FindR es c.1 r ∧ fitsR es c.2.1 c.2.2 r = true) := hide ⟨hst, fun c hc => by
            rw [List.take_add_one, unhide HY, List.mem_append] at hc
            rcases hc with hc | hc
            · exact (unhide HST0).2 c hc
            · have : c = (yk, gg, yv) := by simpa using hc
              subst this
              exact ⟨r, unhide HFR, unhide HFT⟩⟩
          clear hst
          go_upto_region 12 with fail
          go_cut [50] from 19 to 124 (fun r wx => r = .bool false ∧ ∃ q, wx = u1.drewN q)
          case first =>
            by_cases hk00 : k = 0
            · have i4 : ¬ (0 : Int) < (k : Int) := by omega
              have i5 : decide (0 < k) = false := decide_eq_false (by omega)
              have i6 : decide ((0 : Int) < (k : Int)) = false := decide_eq_false i4
              clear hk00
              go_quiet (fail)
              go_wp2_with fail
              go_meet
              exact ⟨rfl, _, rfl⟩
            · obtain ⟨j, hii⟩ : ∃ j, j + 1 = k := ⟨k - 1, by omega⟩
              obtain ⟨p, hp1, y00, hps⟩ := unhide HJ j hii
              rw [(unhide HST).1] at hps
              have i2 : IntKind.i64.wrap ((k : Int) - 1) = (j : Int) := by rw [IntKind.wrap_i64]; omega
              have i3 : (j : Int) < (m : Int) := by omega
              have i4 : (0 : Int) < (k : Int) := by omega
              have i5 : decide (0 < k) = true := decide_eq_true (by omega)
              have i6 : decide ((0 : Int) < (k : Int)) = true := decide_eq_true i4
              have b2 := bl_not p.toList yk.toList
              rw [← hps] at b2
              have b3 : (Op.bytesLess yk.toList p.toList || yk.toList == p.toList) = false := by cases h : (Op.bytesLess yk.toList p.toList || yk.toList == p.toList) with | false => rfl | true => rw [h] at b2; cases b2
              clear b2 hps hp1 hii hk00
              go_quiet (fail)
              go_wp2_with fail
              go_meet
              exact ⟨rfl, _, rfl⟩
          case rest =>
            obtain ⟨rfl, q1, hwc⟩ := hcut
            have HW9 : Hid (Below wr.heap.size wr wc) := hide (by rw [hwc]; exact below_drew3 (unhide B1) _)
            clear hwc
            obtain ⟨W1, hWW⟩ : ∃ W, wc = W := ⟨_, rfl⟩
            rw [hWW] at HW9
            rw [hWW]
            clear hWW
            have HXI : Hid (RaI w W1 es cs AP (.slice so q sc) q i k) := hide (by
              obtain ⟨xs, h2, hq, hqi, h3, h5⟩ := unhide HX
              exact ⟨xs, h2.later (unhide HW9), hq, hqi, h3, h5.trans ((unhide HW9).mono h5.size)⟩)
            clear HX HX0 HW9 B1 HB1 HFT HFR HJ u0 HST0
            go_wp2_with fail
            go_loopw [7, 8] (fun y x wv => ∃ (i : Nat) (so : Option Addr) (q sc : Nat), y = .slice so q sc ∧ x = .int .i64 (i : Int) ∧ Hid (i ≤ n ∧ k ≤ m) ∧ Hid (RaI w wv es cs AP (.slice so q sc) q i k)) (fun _ x _ => n - (intOf x).toNat)
            case atStart => exact ⟨i, so, q, sc, rfl, rfl, HI1, HXI⟩
            case round =>
              clear HI1 hi0 HXI
              obtain ⟨i, so, q, sc, rfl, rfl, HI1, HX⟩ := hrel
              have hi0 := (unhide HI1).1
              have HX5 : Hid (Below w.heap.size w wr) := hide (by obtain ⟨xs, h2, hq, hqi, h3, h5⟩ := unhide HX; exact h5)
              have hyy := unhide HY
              by_cases hin : i < n
              · obtain ⟨xk, xv, hx⟩ := xe i hin
                obtain ⟨a, x0, x1, x2, x3, x6, x4, x7, x5, x8, rfl, hab, _, hcx, hpx⟩ := (unhide HE).elem i _ hx
                dsimp only at hcx hpx
                have HXw : Hid (w.cell? (a.add (i * 6)) = some (.string xk) ∧ w.cell? ⟨(a.add (i * 6)).block, (a.add (i * 6)).off + 1, none⟩ = some (.int .i64 x0) ∧ w.cell? ⟨(a.add (i * 6)).block, (a.add (i * 6)).off + 2, none⟩ = some (.int .i64 x1) ∧ w.cell? ⟨(a.add (i * 6)).block, (a.add (i * 6)).off + 3, none⟩ = some (.string x2) ∧ w.cell? ⟨(a.add (i * 6)).block, (a.add (i * 6)).off + 4, none⟩ = some (.slice x3 x4 x5) ∧ w.cell? ⟨(a.add (i * 6)).block, (a.add (i * 6)).off + 5, none⟩ = some (.slice x6 x7 x8)) := hide ⟨hcx 0 _ rfl, hcx 1 _ rfl, hcx 2 _ rfl, hcx 3 _ rfl, hcx 4 _ rfl, hcx 5 _ rfl⟩
                have HVX : Hid (IsV w B xv (.agg #[.int .i64 x0, .int .i64 x1, .string x2, .slice x3 x4 x5, .slice x6 x7 x8])) := hide hpx
                have HXR : Hid (rightB xv = true) := hide (by have hent := unhide HRE _ (List.mem_of_getElem? hx); unfold entB at hent; simp only [Bool.and_eq_true, decide_eq_true_eq] at hent; exact hent.2)
                have HBa : Hid (a.block < B) := hide hab
                clear hcx hpx hab
                have j1 : (i : Int) < (n : Int) := by omega
                have r0x : wr.cell? (a.add (i * 6)) = some (.string xk) := cell_later (unhide HX5) ((unhide HXw).1)
                have r0y : wr.cell? (b.add (k * 7)) = some (.string yk) := cell_later (unhide HX5) ((unhide HYw).1)
                cases hL1 : ltK xk yk with
                | true =>
                  have hLa : Op.bytesLess xk.toList yk.toList = true := hL1
                  have HDF : Hid (apL (es.length + cs.length - (i + k)) (es.drop i) (cs.drop k) = (xk, xv) :: apL (es.length + cs.length - (i + 1 + k)) (es.drop (i + 1)) (cs.drop k)) := hide (ap_lo hx hyy hL1)
                  clear hx hyy hL1
                  go_upto_region 14 with fail
                  go_cut [67] from 51 to 84 (fun r wx => r = .bool true ∧ ∃ q, wx = wr.drewN q)
                  case first =>
                    go_quiet (fail)
                    go_wp2_with fail
                    go_meet
                    exact ⟨rfl, _, rfl⟩
                  case rest =>
                    obtain ⟨rfl, q1, hwc⟩ := hcut
                    have HWr : Hid (Below wr.heap.size wr wc) := hide (by rw [hwc]; exact below_drew3 (Below.refl _ _) _)
                    clear hwc
                    obtain ⟨W, hWW⟩ : ∃ W, wc = W := ⟨_, rfl⟩
                    rw [hWW] at HWr
                    rw [hWW]
                    clear hWW
                    clear r0x r0y
                    obtain ⟨xs, h2, hq, hqi, h3, h5⟩ := unhide HX
                    have h2W := h2.later (unhide HWr)
                    have hDb : Below w.heap.size w W := h5.trans ((unhide HWr).mono h5.size)
                    have HYC : Hid (W.cell? (a.add (i * 6)) = some (.string xk) ∧ W.cell? ⟨(a.add (i * 6)).block, (a.add (i * 6)).off + 1, none⟩ = some (.int .i64 x0) ∧ W.cell? ⟨(a.add (i * 6)).block, (a.add (i * 6)).off + 2, none⟩ = some (.int .i64 x1) ∧ W.cell? ⟨(a.add (i * 6)).block, (a.add (i * 6)).off + 3, none⟩ = some (.string x2) ∧ W.cell? ⟨(a.add (i * 6)).block, (a.add (i * 6)).off + 4, none⟩ = some (.slice x3 x4 x5) ∧ W.cell? ⟨(a.add (i * 6)).block, (a.add (i * 6)).off + 5, none⟩ = some (.slice x6 x7 x8)) := hide ⟨cell_later hDb ((unhide HXw).1), cell_later hDb ((unhide HXw).2.1), cell_later hDb ((unhide HXw).2.2.1), cell_later hDb ((unhide HXw).2.2.2.1), cell_later hDb ((unhide HXw).2.2.2.2.1), cell_later hDb ((unhide HXw).2.2.2.2.2)⟩
                    have HYB : Hid ((a.add (i * 6)).block < W.heap.size ∧ some (a.add (i * 6)).block ≠ (Value.slice so q sc).ownBlock) := hide ⟨by have := hDb.size; have := unhide HBB; have := unhide HBa; rw [block_add]; omega, fun e => by rw [block_add] at e; have := (h2.row.lt a.block e.symm).1; have := unhide HBB; have := unhide HBa; omega⟩
                    have HCo : Hid (∀ u, Below W.heap.size W u → Calls Try.prog 27 #[.agg #[.int .i64 x0, .int .i64 x1, .string x2, .slice x3 x4 x5, .slice x6 x7 x8]] u fun e w' => ∃ d : Th5, e = .returned (.agg (th5 d).toArray) ∧ Below u.heap.size u w' ∧ IsQ w' (fun b => u.heap.size ≤ b ∧ b < w'.heap.size) xv (.agg (th5 d).toArray)) := hide (fun u hu => by
                      have hwu := hDb.trans (hu.mono hDb.size)
                      refine (copyD_any xv _ B u (IsV.mono (hwu.mono (unhide HBB)) (unhide HVX)) (Nat.le_trans (unhide HBB) hwu.size)).mono ?_
                      rintro e w' ⟨x', rfl, bb, qq, -⟩
                      have hq := qq (unhide HXR)
                      obtain ⟨d, rfl⟩ := isP_th5 hq.1
                      exact ⟨d, rfl, bb, hq⟩)
                    obtain ⟨CS, hCS⟩ : ∃ CS, cellsN xs = CS := ⟨_, rfl⟩
                    obtain ⟨lo, hlo⟩ : ∃ lo, w.heap.size = lo := ⟨_, rfl⟩
                    have HOW : Hid (∀ u, Below W.heap.size W u → u.ownsRow lo 48 6 (.slice so q sc) q CS) := hide (fun u hu => by
                      have := (h2W.later hu).row
                      rw [hq, hCS, hlo] at this
                      exact this)
                    have hloW : lo ≤ W.heap.size := by have := hDb.size; omega
                    obtain ⟨iv, hiv, hz0, hz1, hz2⟩ := info_parts infoEnN
                    have HI := hide (And.intro hiv (And.intro hz0 (And.intro hz1 hz2)))
                    have HEND : Hid (∀ (W4 W5 : World) (g5 cap5 : Nat) (c : Th5), Below W.heap.size W W4 → IsQ W4 (fun b => W.heap.size ≤ b ∧ b < W4.heap.size) xv (.agg (th5 c).toArray) → W5.ownsRow lo 48 6 (.slice (some ⟨g5, 0, none⟩) (q + 1) cap5) (q + 1) (CS ++ (.string xk :: th5 c)) → W4.grownBy W5 (Value.slice so q sc).ownBlock → ((Value.slice so q sc).ownBlock = some g5 ∨ g5 = W4.heap.size) → RaI w W5 es cs AP (.slice (some ⟨g5, 0, none⟩) (q + 1) cap5) (q + 1) (i + 1) k) := hide (by
                      intro W4 W5 g5 cap5 c b4 q4 o5 g5' a5
                      rw [← hlo, ← hCS] at o5
                      have hpush := h2W.push (k := xk) (c := c) (y := xv) hq b4 hDb.size q4 o5 g5' a5
                      refine ⟨_, hpush, by simp [hq], by omega, ?_, hDb.trans (((b4.mono hDb.size)).trans ?_)⟩
                      · rw [List.map_append, List.append_assoc, ← h3, unhide HDF]
                        rfl
                      · exact (Below.refl _ _).grown g5' (by have := hDb.size; have := b4.size; omega) (fun b hb => (h2.row.lt b hb).1))
                    have hq500 : q ≤ 384 := by have := unhide HI1; omega
                    clear h2 h2W h3 h5 hDb hq hqi hCS hiv hz0 hz1 hz2 HX
                    go_upto_region 15 with fail
                    have HS0 : Hid (W.drew.cell? (a.add (i * 6)) = some (.string xk) ∧ W.drew.cell? ⟨(a.add (i * 6)).block, (a.add (i * 6)).off + 1, none⟩ = some (.int .i64 x0) ∧ W.drew.cell? ⟨(a.add (i * 6)).block, (a.add (i * 6)).off + 2, none⟩ = some (.int .i64 x1) ∧ W.drew.cell? ⟨(a.add (i * 6)).block, (a.add (i * 6)).off + 3, none⟩ = some (.string x2) ∧ W.drew.cell? ⟨(a.add (i * 6)).block, (a.add (i * 6)).off + 4, none⟩ = some (.slice x3 x4 x5) ∧ W.drew.cell? ⟨(a.add (i * 6)).block, (a.add (i * 6)).off + 5, none⟩ = some (.slice x6 x7 x8)) := hide (unhide HYC)
                    refine till_begin (S := fun w' => w'.cell? (a.add (i * 6)) = some (.string xk) ∧ w'.cell? ⟨(a.add (i * 6)).block, (a.add (i * 6)).off + 1, none⟩ = some (.int .i64 x0) ∧ w'.cell? ⟨(a.add (i * 6)).block, (a.add (i * 6)).off + 2, none⟩ = some (.int .i64 x1) ∧ w'.cell? ⟨(a.add (i * 6)).block, (a.add (i * 6)).off + 3, none⟩ = some (.string x2) ∧ w'.cell? ⟨(a.add (i * 6)).block, (a.add (i * 6)).off + 4, none⟩ = some (.slice x3 x4 x5) ∧ w'.cell? ⟨(a.add (i * 6)).block, (a.add (i * 6)).off + 5, none⟩ = some (.slice x6 x7 x8)) 15 (by kernel_rfl) ?_
                    refine till_take 0 (v := .slice so q sc) (some 68) rfl rfl rfl (by kernel_rfl) (by kernel_rfl) (by kernel_rfl) (by kernel_rfl) (fun _ _ _ h => h) (Or.inl ⟨by rfl, fun u hu => by obtain ⟨b0, b1, b2, b3, b4, b5⟩ := hu; go_simp⟩) (unhide HS0) ?_
                    try simp only [Act.put, List.setIfInBounds_toArray, List.set_cons_zero, List.set_cons_succ]
                    refine till_take 1 (v := .slice (some a) n cl) (some 69) rfl rfl rfl (by kernel_rfl) (by kernel_rfl) (by kernel_rfl) (by kernel_rfl) (fun _ _ _ h => h) (Or.inl ⟨by rfl, fun u hu => by obtain ⟨b0, b1, b2, b3, b4, b5⟩ := hu; go_simp⟩) (unhide HS0) ?_
                    try simp only [Act.put, List.setIfInBounds_toArray, List.set_cons_zero, List.set_cons_succ]
                    refine till_take 2 (v := .int .i64 (i : Int)) (some 70) rfl rfl rfl (by kernel_rfl) (by kernel_rfl) (by kernel_rfl) (by kernel_rfl) (fun _ _ _ h => h) (Or.inl ⟨by rfl, fun u hu => by obtain ⟨b0, b1, b2, b3, b4, b5⟩ := hu; go_simp⟩) (unhide HS0) ?_
                    try simp only [Act.put, List.setIfInBounds_toArray, List.set_cons_zero, List.set_cons_succ]
                    refine till_take 3 (v := .pointer (some (a.add (i * 6)))) (some 71) rfl rfl rfl (by kernel_rfl) (by kernel_rfl) (by kernel_rfl) (by kernel_rfl) (fun _ _ _ h => h) (Or.inl ⟨by rfl, fun u hu => by obtain ⟨b0, b1, b2, b3, b4, b5⟩ := hu; go_simp⟩) (unhide HS0) ?_
                    try simp only [Act.put, List.setIfInBounds_toArray, List.set_cons_zero, List.set_cons_succ]
                    refine till_take 4 (v := .pointer (some (a.add (i * 6)))) (some 72) rfl rfl rfl (by kernel_rfl) (by kernel_rfl) (by kernel_rfl) (by kernel_rfl) (fun _ _ _ h => h) (Or.inl ⟨by rfl, fun u hu => by obtain ⟨b0, b1, b2, b3, b4, b5⟩ := hu; go_simp⟩) (unhide HS0) ?_
                    try simp only [Act.put, List.setIfInBounds_toArray, List.set_cons_zero, List.set_cons_succ]
                    refine till_take 5 (v := .string xk) (some 73) rfl rfl rfl (by kernel_rfl) (by kernel_rfl) (by kernel_rfl) (by kernel_rfl) (fun _ _ _ h => h) (Or.inl ⟨by rfl, fun u hu => by obtain ⟨b0, b1, b2, b3, b4, b5⟩ := hu; go_simp⟩) (unhide HS0) ?_
                    try simp only [Act.put, List.setIfInBounds_toArray, List.set_cons_zero, List.set_cons_succ]
                    refine till_take 6 (v := .slice (some a) n cl) (some 74) rfl rfl rfl (by kernel_rfl) (by kernel_rfl) (by kernel_rfl) (by kernel_rfl) (fun _ _ _ h => h) (Or.inl ⟨by rfl, fun u hu => by obtain ⟨b0, b1, b2, b3, b4, b5⟩ := hu; go_simp⟩) (unhide HS0) ?_
                    try simp only [Act.put, List.setIfInBounds_toArray, List.set_cons_zero, List.set_cons_succ]
                    refine till_take 7 (v := .int .i64 (i : Int)) (some 75) rfl rfl rfl (by kernel_rfl) (by kernel_rfl) (by kernel_rfl) (by kernel_rfl) (fun _ _ _ h => h) (Or.inl ⟨by rfl, fun u hu => by obtain ⟨b0, b1, b2, b3, b4, b5⟩ := hu; go_simp⟩) (unhide HS0) ?_
                    try simp only [Act.put, List.setIfInBounds_toArray, List.set_cons_zero, List.set_cons_succ]
                    refine till_take 8 (v := .pointer (some (a.add (i * 6)))) (some 76) rfl rfl rfl (by kernel_rfl) (by kernel_rfl) (by kernel_rfl) (by kernel_rfl) (fun _ _ _ h => h) (Or.inl ⟨by rfl, fun u hu => by obtain ⟨b0, b1, b2, b3, b4, b5⟩ := hu; go_simp⟩) (unhide HS0) ?_
                    try simp only [Act.put, List.setIfInBounds_toArray, List.set_cons_zero, List.set_cons_succ]
                    refine till_take 9 (v := .pointer (some ⟨(a.add (i * 6)).block, (a.add (i * 6)).off + 1, none⟩)) (some 77) rfl rfl rfl (by kernel_rfl) (by kernel_rfl) (by kernel_rfl) (by kernel_rfl) (fun _ _ _ h => h) (Or.inl ⟨by rfl, fun u hu => by obtain ⟨b0, b1, b2, b3, b4, b5⟩ := hu; go_simp⟩) (unhide HS0) ?_
                    try simp only [Act.put, List.setIfInBounds_toArray, List.set_cons_zero, List.set_cons_succ]
                    refine till_take 10 (v := .agg #[.int .i64 x0, .int .i64 x1, .string x2, .slice x3 x4 x5, .slice x6 x7 x8]) (some 78) rfl rfl rfl (by kernel_rfl) (by kernel_rfl) (by kernel_rfl) (by kernel_rfl) (fun _ _ _ h => h) (Or.inl ⟨by rfl, fun u hu => by obtain ⟨b0, b1, b2, b3, b4, b5⟩ := hu; go_simp⟩) (unhide HS0) ?_
                    try simp only [Act.put, List.setIfInBounds_toArray, List.set_cons_zero, List.set_cons_succ]
                    refine till_one 11 (by kernel_rfl) rfl (fun K hK => ?_)
                    go_simp
                    refine (unhide HCo W.drew (below_drew_to3 (Below.refl _ _))).mono ?_
                    rintro e W3 ⟨⟨d0, d1, d2, d3, d4, d5, d6, d7, d8⟩, rfl, b3, q3⟩
                    dsimp only [th5] at q3 ⊢
                    have X3 : Below W.heap.size W W3 := below_drew_of' b3
                    have HS3 : Hid (W3.cell? (a.add (i * 6)) = some (.string xk) ∧ W3.cell? ⟨(a.add (i * 6)).block, (a.add (i * 6)).off + 1, none⟩ = some (.int .i64 x0) ∧ W3.cell? ⟨(a.add (i * 6)).block, (a.add (i * 6)).off + 2, none⟩ = some (.int .i64 x1) ∧ W3.cell? ⟨(a.add (i * 6)).block, (a.add (i * 6)).off + 3, none⟩ = some (.string x2) ∧ W3.cell? ⟨(a.add (i * 6)).block, (a.add (i * 6)).off + 4, none⟩ = some (.slice x3 x4 x5) ∧ W3.cell? ⟨(a.add (i * 6)).block, (a.add (i * 6)).off + 5, none⟩ = some (.slice x6 x7 x8)) := hide ⟨cell_later X3 ((unhide HS0).1), cell_later X3 ((unhide HS0).2.1), cell_later X3 ((unhide HS0).2.2.1), cell_later X3 ((unhide HS0).2.2.2.1), cell_later X3 ((unhide HS0).2.2.2.2.1), cell_later X3 ((unhide HS0).2.2.2.2.2)⟩
                    have H3 : Hid (Below W.heap.size W W3 ∧ IsQ W3 (fun b => W.heap.size ≤ b ∧ b < W3.heap.size) xv (.agg #[.int .i64 d0, .int .i64 d1, .string d2, .slice d3 d4 d5, .slice d6 d7 d8])) := hide ⟨X3, q3⟩
                    clear b3 q3 X3
                    go_wp2_with fail
                    refine hK.out _ _ (Or.inr (unhide HS3)) ?_
                    clear hK K HS0
                    try simp only [Act.put, List.setIfInBounds_toArray, List.set_cons_zero, List.set_cons_succ]
                    refine till_one 12 (by kernel_rfl) rfl (fun K hK => ?_)
                    obtain ⟨b0, b1, b2, b3, b4, b5⟩ := unhide HS3
                    go_simp
                    refine hK.out _ _ (Or.inr (unhide HS3)) ?_
                    clear hK K b0 b1 b2 b3 b4 b5
                    try simp only [Act.put, List.setIfInBounds_toArray, List.set_cons_zero, List.set_cons_succ]
                    refine till_one 13 (by kernel_rfl) rfl (fun K hK => ?_)
                    go_simp
                    obtain ⟨W4, hW4⟩ : ∃ W4, W3.alloc (.cells #[.string xk, .int .i64 d0, .int .i64 d1, .string d2, .slice d3 d4 d5, .slice d6 d7 d8] 48) = W4 := ⟨_, rfl⟩
                    have X4 : Below W3.heap.size W3 W4 := by rw [← hW4]; exact (Below.refl _ _).alloc (Nat.le_refl _) _
                    have at4 : W4.heap[W3.heap.size]? = some (.cells #[.string xk, .int .i64 d0, .int .i64 d1, .string d2, .slice d3 d4 d5, .slice d6 d7 d8] 48 (0, 0)) := by rw [← hW4]; exact heap_alloc_new W3 _
                    try rw [hW4]
                    have HS4 : Hid (W4.cell? (a.add (i * 6)) = some (.string xk) ∧ W4.cell? ⟨(a.add (i * 6)).block, (a.add (i * 6)).off + 1, none⟩ = some (.int .i64 x0) ∧ W4.cell? ⟨(a.add (i * 6)).block, (a.add (i * 6)).off + 2, none⟩ = some (.int .i64 x1) ∧ W4.cell? ⟨(a.add (i * 6)).block, (a.add (i * 6)).off + 3, none⟩ = some (.string x2) ∧ W4.cell? ⟨(a.add (i * 6)).block, (a.add (i * 6)).off + 4, none⟩ = some (.slice x3 x4 x5) ∧ W4.cell? ⟨(a.add (i * 6)).block, (a.add (i * 6)).off + 5, none⟩ = some (.slice x6 x7 x8)) := hide ⟨cell_later X4 ((unhide HS3).1), cell_later X4 ((unhide HS3).2.1), cell_later X4 ((unhide HS3).2.2.1), cell_later X4 ((unhide HS3).2.2.2.1), cell_later X4 ((unhide HS3).2.2.2.2.1), cell_later X4 ((unhide HS3).2.2.2.2.2)⟩
                    have H4 : Hid (Below W.heap.size W W4 ∧ IsQ W4 (fun b => W.heap.size ≤ b ∧ b < W4.heap.size) xv (.agg #[.int .i64 d0, .int .i64 d1, .string d2, .slice d3 d4 d5, .slice d6 d7 d8])) := hide ⟨(unhide H3).1.trans (X4.mono (unhide H3).1.size), ((unhide H3).2.move (fun b hb => X4.block b hb.2)).weak (fun b hb => ⟨hb.1, Nat.lt_of_lt_of_le hb.2 X4.size⟩)⟩
                    obtain ⟨h3s, hh3s⟩ : ∃ h3s, W3.heap.size = h3s := ⟨_, rfl⟩
                    rw [hh3s] at at4
                    try rw [hh3s]
                    refine hK.out _ _ (Or.inr (unhide HS4)) ?_
                    clear hK K hW4 X4 hh3s HS3 H3
                    try simp only [Act.put, List.setIfInBounds_toArray, List.set_cons_zero, List.set_cons_succ]
                    refine till_one 14 (by kernel_rfl) rfl (fun K hK => ?_)
                    refine step_append_lies _ (by rfl) _ _ 22 (by rfl) lo 48 iv (.agg #[.string ⟨#[]⟩, .int .i64 0, .int .i64 0, .string ⟨#[]⟩, .slice none 0 0, .slice none 0 0]) 6 96 Try.underlying22 (unhide HI).1 (unhide HI).2.1 (unhide HI).2.2.1 (unhide HI).2.2.2 rfl (by omega) (.slice so q sc) q CS (by rfl) (unhide HOW W4 (unhide H4).1) ⟨h3s, 0, none⟩ 1 1 [.string xk, .int .i64 d0, .int .i64 d1, .string d2, .slice d3 d4 d5, .slice d6 d7 d8] (by rfl) (by rfl) (World.news_of_block at4) (by simp [Value.oneCell']) (by omega) (by unfold maxLen; omega) (by omega) (Nat.le_trans hloW (unhide H4).1.size) _ rfl ?_
                    intro g5 cap5 W5 hown5 hgrow5 hat5 hlt5
                    change K (Act.put _ (some 82) _) W5
                    have HS5 : Hid (W5.cell? (a.add (i * 6)) = some (.string xk) ∧ W5.cell? ⟨(a.add (i * 6)).block, (a.add (i * 6)).off + 1, none⟩ = some (.int .i64 x0) ∧ W5.cell? ⟨(a.add (i * 6)).block, (a.add (i * 6)).off + 2, none⟩ = some (.int .i64 x1) ∧ W5.cell? ⟨(a.add (i * 6)).block, (a.add (i * 6)).off + 3, none⟩ = some (.string x2) ∧ W5.cell? ⟨(a.add (i * 6)).block, (a.add (i * 6)).off + 4, none⟩ = some (.slice x3 x4 x5) ∧ W5.cell? ⟨(a.add (i * 6)).block, (a.add (i * 6)).off + 5, none⟩ = some (.slice x6 x7 x8)) := hide ⟨(hgrow5.cell_far (a.add (i * 6)) (Nat.lt_of_lt_of_le (unhide HYB).1 (unhide H4).1.size) (unhide HYB).2).trans ((unhide HS4).1), (hgrow5.cell_far ⟨(a.add (i * 6)).block, (a.add (i * 6)).off + 1, none⟩ (Nat.lt_of_lt_of_le (unhide HYB).1 (unhide H4).1.size) (unhide HYB).2).trans ((unhide HS4).2.1), (hgrow5.cell_far ⟨(a.add (i * 6)).block, (a.add (i * 6)).off + 2, none⟩ (Nat.lt_of_lt_of_le (unhide HYB).1 (unhide H4).1.size) (unhide HYB).2).trans ((unhide HS4).2.2.1), (hgrow5.cell_far ⟨(a.add (i * 6)).block, (a.add (i * 6)).off + 3, none⟩ (Nat.lt_of_lt_of_le (unhide HYB).1 (unhide H4).1.size) (unhide HYB).2).trans ((unhide HS4).2.2.2.1), (hgrow5.cell_far ⟨(a.add (i * 6)).block, (a.add (i * 6)).off + 4, none⟩ (Nat.lt_of_lt_of_le (unhide HYB).1 (unhide H4).1.size) (unhide HYB).2).trans ((unhide HS4).2.2.2.2.1), (hgrow5.cell_far ⟨(a.add (i * 6)).block, (a.add (i * 6)).off + 5, none⟩ (Nat.lt_of_lt_of_le (unhide HYB).1 (unhide H4).1.size) (unhide HYB).2).trans ((unhide HS4).2.2.2.2.2)⟩
                    have H5 := hide (And.intro hown5 (And.intro hgrow5 hat5))
                    refine hK.out _ _ (Or.inr (unhide HS5)) ?_
                    clear hK K hown5 hgrow5 hat5 hlt5 HS4
                    try simp only [Act.put, List.setIfInBounds_toArray, List.set_cons_zero, List.set_cons_succ]
                    refine till_one 15 (by kernel_rfl) rfl (fun K hK => ?_)
                    obtain ⟨b0, b1, b2, b3, b4, b5⟩ := unhide HS5
                    go_simp
                    refine hK.out _ _ (Or.inl (by first | rfl | trivial)) ?_
                    clear hK K b0 b1 b2 b3 b4 b5
                    try simp only [Act.put, List.setIfInBounds_toArray, List.set_cons_zero, List.set_cons_succ]
                    refine till_done (by kernel_rfl) ?_ _
                    have RR := hide (unhide HEND W4 W5 g5 cap5 (d0, d1, d2, d3, d4, d5, d6, d7, d8) (unhide H4).1 (unhide H4).2 (unhide H5).1 (unhide H5).2.1 (unhide H5).2.2)
                    clear HEND H4 H5 HOW HI HS5 at4 HYC HYB HCo
                    go_wp2_with fail
                    go_roundw
                    case rel => exact ⟨i + 1, _, _, _, rfl, by go_num, hide ⟨by omega, (unhide HI1).2⟩, RR⟩
                    case measure => simp [intOf]; omega
                | false =>
                  have hLa : Op.bytesLess xk.toList yk.toList = false := hL1
                  cases hLe : (xk.toList == yk.toList) with
                  | true =>
                    go_upto_region 14 with fail
                    go_cut [67] from 51 to 84 (fun r wx => r = .bool false ∧ ∃ q, wx = wr.drewN q)
                    case first =>
                      go_quiet (fail)
                      go_wp2_with fail
                      go_meet
                      exact ⟨rfl, _, rfl⟩
                    case rest =>
                      obtain ⟨rfl, q1, hwc⟩ := hcut
                      have HW1 : Hid (Below wr.heap.size wr wc) := hide (by rw [hwc]; exact below_drew3 (Below.refl _ _) _)
                      clear hwc
                      obtain ⟨V1, hWW⟩ : ∃ W, wc = W := ⟨_, rfl⟩
                      rw [hWW] at HW1
                      rw [hWW]
                      clear hWW
                      have v0x : V1.cell? (a.add (i * 6)) = some (.string xk) := cell_later ((unhide HX5).trans ((unhide HW1).mono (unhide HX5).size)) ((unhide HXw).1)
                      have v0y : V1.cell? (b.add (k * 7)) = some (.string yk) := cell_later ((unhide HX5).trans ((unhide HW1).mono (unhide HX5).size)) ((unhide HYw).1)
                      clear r0x r0y
                      go_upto_region 17 with fail
                      go_cut [101] from 19 to 124 (fun r wx => r = .bool true ∧ ∃ q, wx = V1.drewN q)
                      case first =>
                        go_quiet (fail)
                        go_wp2_with fail
                        go_meet
                        exact ⟨rfl, _, rfl⟩
                      case rest =>
                        obtain ⟨rfl, q1, hwc⟩ := hcut
                        have HWr : Hid (Below wr.heap.size wr wc) := hide (by rw [hwc]; exact below_drew3 (unhide HW1) _)
                        clear hwc HW1
                        obtain ⟨W, hWW⟩ : ∃ W, wc = W := ⟨_, rfl⟩
                        rw [hWW] at HWr
                        rw [hWW]
                        clear hWW
                        have w1y : W.cell? ⟨(b.add (k * 7)).block, (b.add (k * 7)).off + 1, none⟩ = some (.bool gg) := cell_later ((unhide HX5).trans ((unhide HWr).mono (unhide HX5).size)) ((unhide HYw).2.1)
                        have HDQ : Hid (apL (es.length + cs.length - (i + k)) (es.drop i) (cs.drop k) = outA (some (xk, xv), some (yk, gg, yv)) ++ apL (es.length + cs.length - (i + 1 + (k + 1))) (es.drop (i + 1)) (cs.drop (k + 1))) := hide (ap_eq hx hyy ((bytes_beqR _ _).1 hLe))
                        clear hyy hx hLe
                        cases gg with
                        | true =>
                          have RR : Hid (RaI w W es cs AP (.slice so q sc) q (i + 1) (k + 1)) := hide (by
                            obtain ⟨xs, h2, hq, hqi, h3, h5⟩ := unhide HX
                            exact ⟨xs, h2.later (unhide HWr), hq, by omega, by rw [← h3, unhide HDQ, outA_gone, List.nil_append], h5.trans ((unhide HWr).mono h5.size)⟩)
                          clear HDQ HX
                          go_wp2_with fail
                          go_roundw
                          case rel => exact ⟨i + 1, k + 1, so, q, sc, rfl, by first | rfl | go_num, by go_num, hide ⟨by omega, by omega⟩, HST, RR⟩
                          case measure => simp [intOf]; omega
                        | false =>
                          have HDF : Hid (apL (es.length + cs.length - (i + k)) (es.drop i) (cs.drop k) = (yk, yv) :: apL (es.length + cs.length - (i + 1 + (k + 1))) (es.drop (i + 1)) (cs.drop (k + 1))) := hide (by rw [unhide HDQ, outA_put]; rfl)
                          have HYR : Hid (rightB yv = true) := hide (unhide HYR0 rfl)
                          clear HDQ
                          obtain ⟨xs, h2, hq, hqi, h3, h5⟩ := unhide HX
                          have h2W := h2.later (unhide HWr)
                          have hDb : Below w.heap.size w W := h5.trans ((unhide HWr).mono h5.size)
                          have HYC : Hid (W.cell? (b.add (k * 7)) = some (.string yk) ∧ W.cell? ⟨(b.add (k * 7)).block, (b.add (k * 7)).off + 2, none⟩ = some (.int .i64 y0) ∧ W.cell? ⟨(b.add (k * 7)).block, (b.add (k * 7)).off + 3, none⟩ = some (.int .i64 y1) ∧ W.cell? ⟨(b.add (k * 7)).block, (b.add (k * 7)).off + 4, none⟩ = some (.string y2) ∧ W.cell? ⟨(b.add (k * 7)).block, (b.add (k * 7)).off + 5, none⟩ = some (.slice y3 y4 y5) ∧ W.cell? ⟨(b.add (k * 7)).block, (b.add (k * 7)).off + 6, none⟩ = some (.slice y6 y7 y8)) := hide ⟨cell_later hDb ((unhide HYw).1), cell_later hDb ((unhide HYw).2.2.1), cell_later hDb ((unhide HYw).2.2.2.1), cell_later hDb ((unhide HYw).2.2.2.2.1), cell_later hDb ((unhide HYw).2.2.2.2.2.1), cell_later hDb ((unhide HYw).2.2.2.2.2.2)⟩
                          have HYB : Hid ((b.add (k * 7)).block < W.heap.size ∧ some (b.add (k * 7)).block ≠ (Value.slice so q sc).ownBlock) := hide ⟨by have := hDb.size; have := unhide HBB; have := unhide HBb; rw [block_add]; omega, fun e => by rw [block_add] at e; have := (h2.row.lt b.block e.symm).1; have := unhide HBB; have := unhide HBb; omega⟩
                          have HCo : Hid (∀ u, Below W.heap.size W u → Calls Try.prog 27 #[.agg #[.int .i64 y0, .int .i64 y1, .string y2, .slice y3 y4 y5, .slice y6 y7 y8]] u fun e w' => ∃ d : Th5, e = .returned (.agg (th5 d).toArray) ∧ Below u.heap.size u w' ∧ IsQ w' (fun b => u.heap.size ≤ b ∧ b < w'.heap.size) yv (.agg (th5 d).toArray)) := hide (fun u hu => by
                            have hwu := hDb.trans (hu.mono hDb.size)
                            refine (copyD_any yv _ B u (IsV.mono (hwu.mono (unhide HBB)) (unhide HVY)) (Nat.le_trans (unhide HBB) hwu.size)).mono ?_
                            rintro e w' ⟨x', rfl, bb, qq, -⟩
                            have hq := qq (unhide HYR)
                            obtain ⟨d, rfl⟩ := isP_th5 hq.1
                            exact ⟨d, rfl, bb, hq⟩)
                          obtain ⟨CS, hCS⟩ : ∃ CS, cellsN xs = CS := ⟨_, rfl⟩
                          obtain ⟨lo, hlo⟩ : ∃ lo, w.heap.size = lo := ⟨_, rfl⟩
                          have HOW : Hid (∀ u, Below W.heap.size W u → u.ownsRow lo 48 6 (.slice so q sc) q CS) := hide (fun u hu => by
                            have := (h2W.later hu).row
                            rw [hq, hCS, hlo] at this
                            exact this)
                          have hloW : lo ≤ W.heap.size := by have := hDb.size; omega
                          obtain ⟨iv, hiv, hz0, hz1, hz2⟩ := info_parts infoEnN
                          have HI := hide (And.intro hiv (And.intro hz0 (And.intro hz1 hz2)))
                          have HEND : Hid (∀ (W4 W5 : World) (g5 cap5 : Nat) (c : Th5), Below W.heap.size W W4 → IsQ W4 (fun b => W.heap.size ≤ b ∧ b < W4.heap.size) yv (.agg (th5 c).toArray) → W5.ownsRow lo 48 6 (.slice (some ⟨g5, 0, none⟩) (q + 1) cap5) (q + 1) (CS ++ (.string yk :: th5 c)) → W4.grownBy W5 (Value.slice so q sc).ownBlock → ((Value.slice so q sc).ownBlock = some g5 ∨ g5 = W4.heap.size) → RaI w W5 es cs AP (.slice (some ⟨g5, 0, none⟩) (q + 1) cap5) (q + 1) (i + 1) (k + 1)) := hide (by
                            intro W4 W5 g5 cap5 c b4 q4 o5 g5' a5
                            rw [← hlo, ← hCS] at o5
                            have hpush := h2W.push (k := yk) (c := c) (y := yv) hq b4 hDb.size q4 o5 g5' a5
                            refine ⟨_, hpush, by simp [hq], by omega, ?_, hDb.trans (((b4.mono hDb.size)).trans ?_)⟩
                            · rw [List.map_append, List.append_assoc, ← h3, unhide HDF]
                              rfl
                            · exact (Below.refl _ _).grown g5' (by have := hDb.size; have := b4.size; omega) (fun b hb => (h2.row.lt b hb).1))
                          have hq500 : q ≤ 384 := by have := unhide HI1; omega
                          clear h2 h2W h3 h5 hDb hq hqi hCS hiv hz0 hz1 hz2 HX
                          go_upto_region 20 with fail
                          have HS0 : Hid (W.drew.cell? (b.add (k * 7)) = some (.string yk) ∧ W.drew.cell? ⟨(b.add (k * 7)).block, (b.add (k * 7)).off + 2, none⟩ = some (.int .i64 y0) ∧ W.drew.cell? ⟨(b.add (k * 7)).block, (b.add (k * 7)).off + 3, none⟩ = some (.int .i64 y1) ∧ W.drew.cell? ⟨(b.add (k * 7)).block, (b.add (k * 7)).off + 4, none⟩ = some (.string y2) ∧ W.drew.cell? ⟨(b.add (k * 7)).block, (b.add (k * 7)).off + 5, none⟩ = some (.slice y3 y4 y5) ∧ W.drew.cell? ⟨(b.add (k * 7)).block, (b.add (k * 7)).off + 6, none⟩ = some (.slice y6 y7 y8)) := hide (unhide HYC)
                          refine till_begin (S := fun w' => w'.cell? (b.add (k * 7)) = some (.string yk) ∧ w'.cell? ⟨(b.add (k * 7)).block, (b.add (k * 7)).off + 2, none⟩ = some (.int .i64 y0) ∧ w'.cell? ⟨(b.add (k * 7)).block, (b.add (k * 7)).off + 3, none⟩ = some (.int .i64 y1) ∧ w'.cell? ⟨(b.add (k * 7)).block, (b.add (k * 7)).off + 4, none⟩ = some (.string y2) ∧ w'.cell? ⟨(b.add (k * 7)).block, (b.add (k * 7)).off + 5, none⟩ = some (.slice y3 y4 y5) ∧ w'.cell? ⟨(b.add (k * 7)).block, (b.add (k * 7)).off + 6, none⟩ = some (.slice y6 y7 y8)) 15 (by kernel_rfl) ?_
                          refine till_take 0 (v := .slice so q sc) (some 110) rfl rfl rfl (by kernel_rfl) (by kernel_rfl) (by kernel_rfl) (by kernel_rfl) (fun _ _ _ h => h) (Or.inl ⟨by rfl, fun u hu => by obtain ⟨b0, b1, b2, b3, b4, b5⟩ := hu; go_simp⟩) (unhide HS0) ?_
                          try simp only [Act.put, List.setIfInBounds_toArray, List.set_cons_zero, List.set_cons_succ]
                          refine till_take 1 (v := .slice (some b) m ck) (some 111) rfl rfl rfl (by kernel_rfl) (by kernel_rfl) (by kernel_rfl) (by kernel_rfl) (fun _ _ _ h => h) (Or.inl ⟨by rfl, fun u hu => by obtain ⟨b0, b1, b2, b3, b4, b5⟩ := hu; go_simp⟩) (unhide HS0) ?_
                          try simp only [Act.put, List.setIfInBounds_toArray, List.set_cons_zero, List.set_cons_succ]
                          refine till_take 2 (v := .int .i64 (k : Int)) (some 112) rfl rfl rfl (by kernel_rfl) (by kernel_rfl) (by kernel_rfl) (by kernel_rfl) (fun _ _ _ h => h) (Or.inl ⟨by rfl, fun u hu => by obtain ⟨b0, b1, b2, b3, b4, b5⟩ := hu; go_simp⟩) (unhide HS0) ?_
                          try simp only [Act.put, List.setIfInBounds_toArray, List.set_cons_zero, List.set_cons_succ]
                          refine till_take 3 (v := .pointer (some (b.add (k * 7)))) (some 113) rfl rfl rfl (by kernel_rfl) (by kernel_rfl) (by kernel_rfl) (by kernel_rfl) (fun _ _ _ h => h) (Or.inl ⟨by rfl, fun u hu => by obtain ⟨b0, b1, b2, b3, b4, b5⟩ := hu; go_simp⟩) (unhide HS0) ?_
                          try simp only [Act.put, List.setIfInBounds_toArray, List.set_cons_zero, List.set_cons_succ]
                          refine till_take 4 (v := .pointer (some (b.add (k * 7)))) (some 114) rfl rfl rfl (by kernel_rfl) (by kernel_rfl) (by kernel_rfl) (by kernel_rfl) (fun _ _ _ h => h) (Or.inl ⟨by rfl, fun u hu => by obtain ⟨b0, b1, b2, b3, b4, b5⟩ := hu; go_simp⟩) (unhide HS0) ?_
                          try simp only [Act.put, List.setIfInBounds_toArray, List.set_cons_zero, List.set_cons_succ]
                          refine till_take 5 (v := .string yk) (some 115) rfl rfl rfl (by kernel_rfl) (by kernel_rfl) (by kernel_rfl) (by kernel_rfl) (fun _ _ _ h => h) (Or.inl ⟨by rfl, fun u hu => by obtain ⟨b0, b1, b2, b3, b4, b5⟩ := hu; go_simp⟩) (unhide HS0) ?_
                          try simp only [Act.put, List.setIfInBounds_toArray, List.set_cons_zero, List.set_cons_succ]
                          refine till_take 6 (v := .slice (some b) m ck) (some 116) rfl rfl rfl (by kernel_rfl) (by kernel_rfl) (by kernel_rfl) (by kernel_rfl) (fun _ _ _ h => h) (Or.inl ⟨by rfl, fun u hu => by obtain ⟨b0, b1, b2, b3, b4, b5⟩ := hu; go_simp⟩) (unhide HS0) ?_
                          try simp only [Act.put, List.setIfInBounds_toArray, List.set_cons_zero, List.set_cons_succ]
                          refine till_take 7 (v := .int .i64 (k : Int)) (some 117) rfl rfl rfl (by kernel_rfl) (by kernel_rfl) (by kernel_rfl) (by kernel_rfl) (fun _ _ _ h => h) (Or.inl ⟨by rfl, fun u hu => by obtain ⟨b0, b1, b2, b3, b4, b5⟩ := hu; go_simp⟩) (unhide HS0) ?_
                          try simp only [Act.put, List.setIfInBounds_toArray, List.set_cons_zero, List.set_cons_succ]
                          refine till_take 8 (v := .pointer (some (b.add (k * 7)))) (some 118) rfl rfl rfl (by kernel_rfl) (by kernel_rfl) (by kernel_rfl) (by kernel_rfl) (fun _ _ _ h => h) (Or.inl ⟨by rfl, fun u hu => by obtain ⟨b0, b1, b2, b3, b4, b5⟩ := hu; go_simp⟩) (unhide HS0) ?_
                          try simp only [Act.put, List.setIfInBounds_toArray, List.set_cons_zero, List.set_cons_succ]
                          refine till_take 9 (v := .pointer (some ⟨(b.add (k * 7)).block, (b.add (k * 7)).off + 2, none⟩)) (some 119) rfl rfl rfl (by kernel_rfl) (by kernel_rfl) (by kernel_rfl) (by kernel_rfl) (fun _ _ _ h => h) (Or.inl ⟨by rfl, fun u hu => by obtain ⟨b0, b1, b2, b3, b4, b5⟩ := hu; go_simp⟩) (unhide HS0) ?_
                          try simp only [Act.put, List.setIfInBounds_toArray, List.set_cons_zero, List.set_cons_succ]
                          refine till_take 10 (v := .agg #[.int .i64 y0, .int .i64 y1, .string y2, .slice y3 y4 y5, .slice y6 y7 y8]) (some 120) rfl rfl rfl (by kernel_rfl) (by kernel_rfl) (by kernel_rfl) (by kernel_rfl) (fun _ _ _ h => h) (Or.inl ⟨by rfl, fun u hu => by obtain ⟨b0, b1, b2, b3, b4, b5⟩ := hu; go_simp⟩) (unhide HS0) ?_
                          try simp only [Act.put, List.setIfInBounds_toArray, List.set_cons_zero, List.set_cons_succ]
                          refine till_one 11 (by kernel_rfl) rfl (fun K hK => ?_)
                          go_simp
                          refine (unhide HCo W.drew (below_drew_to3 (Below.refl _ _))).mono ?_
                          rintro e W3 ⟨⟨d0, d1, d2, d3, d4, d5, d6, d7, d8⟩, rfl, b3, q3⟩
                          dsimp only [th5] at q3 ⊢
                          have X3 : Below W.heap.size W W3 := below_drew_of' b3
                          have HS3 : Hid (W3.cell? (b.add (k * 7)) = some (.string yk) ∧ W3.cell? ⟨(b.add (k * 7)).block, (b.add (k * 7)).off + 2, none⟩ = some (.int .i64 y0) ∧ W3.cell? ⟨(b.add (k * 7)).block, (b.add (k * 7)).off + 3, none⟩ = some (.int .i64 y1) ∧ W3.cell? ⟨(b.add (k * 7)).block, (b.add (k * 7)).off + 4, none⟩ = some (.string y2) ∧ W3.cell? ⟨(b.add (k * 7)).block, (b.add (k * 7)).off + 5, none⟩ = some (.slice y3 y4 y5) ∧ W3.cell? ⟨(b.add (k * 7)).block, (b.add (k * 7)).off + 6, none⟩ = some (.slice y6 y7 y8)) := hide ⟨cell_later X3 ((unhide HS0).1), cell_later X3 ((unhide HS0).2.1), cell_later X3 ((unhide HS0).2.2.1), cell_later X3 ((unhide HS0).2.2.2.1), cell_later X3 ((unhide HS0).2.2.2.2.1), cell_later X3 ((unhide HS0).2.2.2.2.2)⟩
                          have H3 : Hid (Below W.heap.size W W3 ∧ IsQ W3 (fun b => W.heap.size ≤ b ∧ b < W3.heap.size) yv (.agg #[.int .i64 d0, .int .i64 d1, .string d2, .slice d3 d4 d5, .slice d6 d7 d8])) := hide ⟨X3, q3⟩
                          clear b3 q3 X3
                          go_wp2_with fail
                          refine hK.out _ _ (Or.inr (unhide HS3)) ?_
                          clear hK K HS0
                          try simp only [Act.put, List.setIfInBounds_toArray, List.set_cons_zero, List.set_cons_succ]
                          refine till_one 12 (by kernel_rfl) rfl (fun K hK => ?_)
                          obtain ⟨b0, b1, b2, b3, b4, b5⟩ := unhide HS3
                          go_simp
                          refine hK.out _ _ (Or.inr (unhide HS3)) ?_
                          clear hK K b0 b1 b2 b3 b4 b5
                          try simp only [Act.put, List.setIfInBounds_toArray, List.set_cons_zero, List.set_cons_succ]
                          refine till_one 13 (by kernel_rfl) rfl (fun K hK => ?_)
                          go_simp
                          obtain ⟨W4, hW4⟩ : ∃ W4, W3.alloc (.cells #[.string yk, .int .i64 d0, .int .i64 d1, .string d2, .slice d3 d4 d5, .slice d6 d7 d8] 48) = W4 := ⟨_, rfl⟩
                          have X4 : Below W3.heap.size W3 W4 := by rw [← hW4]; exact (Below.refl _ _).alloc (Nat.le_refl _) _
                          have at4 : W4.heap[W3.heap.size]? = some (.cells #[.string yk, .int .i64 d0, .int .i64 d1, .string d2, .slice d3 d4 d5, .slice d6 d7 d8] 48 (0, 0)) := by rw [← hW4]; exact heap_alloc_new W3 _
                          try rw [hW4]
                          have HS4 : Hid (W4.cell? (b.add (k * 7)) = some (.string yk) ∧ W4.cell? ⟨(b.add (k * 7)).block, (b.add (k * 7)).off + 2, none⟩ = some (.int .i64 y0) ∧ W4.cell? ⟨(b.add (k * 7)).block, (b.add (k * 7)).off + 3, none⟩ = some (.int .i64 y1) ∧ W4.cell? ⟨(b.add (k * 7)).block, (b.add (k * 7)).off + 4, none⟩ = some (.string y2) ∧ W4.cell? ⟨(b.add (k * 7)).block, (b.add (k * 7)).off + 5, none⟩ = some (.slice y3 y4 y5) ∧ W4.cell? ⟨(b.add (k * 7)).block, (b.add (k * 7)).off + 6, none⟩ = some (.slice y6 y7 y8)) := hide ⟨cell_later X4 ((unhide HS3).1), cell_later X4 ((unhide HS3).2.1), cell_later X4 ((unhide HS3).2.2.1), cell_later X4 ((unhide HS3).2.2.2.1), cell_later X4 ((unhide HS3).2.2.2.2.1), cell_later X4 ((unhide HS3).2.2.2.2.2)⟩
                          have H4 : Hid (Below W.heap.size W W4 ∧ IsQ W4 (fun b => W.heap.size ≤ b ∧ b < W4.heap.size) yv (.agg #[.int .i64 d0, .int .i64 d1, .string d2, .slice d3 d4 d5, .slice d6 d7 d8])) := hide ⟨(unhide H3).1.trans (X4.mono (unhide H3).1.size), ((unhide H3).2.move (fun b hb => X4.block b hb.2)).weak (fun b hb => ⟨hb.1, Nat.lt_of_lt_of_le hb.2 X4.size⟩)⟩
                          obtain ⟨h3s, hh3s⟩ : ∃ h3s, W3.heap.size = h3s := ⟨_, rfl⟩
                          rw [hh3s] at at4
                          try rw [hh3s]
                          refine hK.out _ _ (Or.inr (unhide HS4)) ?_
                          clear hK K hW4 X4 hh3s HS3 H3
                          try simp only [Act.put, List.setIfInBounds_toArray, List.set_cons_zero, List.set_cons_succ]
                          refine till_one 14 (by kernel_rfl) rfl (fun K hK => ?_)
                          refine step_append_lies _ (by rfl) _ _ 22 (by rfl) lo 48 iv (.agg #[.string ⟨#[]⟩, .int .i64 0, .int .i64 0, .string ⟨#[]⟩, .slice none 0 0, .slice none 0 0]) 6 96 Try.underlying22 (unhide HI).1 (unhide HI).2.1 (unhide HI).2.2.1 (unhide HI).2.2.2 rfl (by omega) (.slice so q sc) q CS (by rfl) (unhide HOW W4 (unhide H4).1) ⟨h3s, 0, none⟩ 1 1 [.string yk, .int .i64 d0, .int .i64 d1, .string d2, .slice d3 d4 d5, .slice d6 d7 d8] (by rfl) (by rfl) (World.news_of_block at4) (by simp [Value.oneCell']) (by omega) (by unfold maxLen; omega) (by omega) (Nat.le_trans hloW (unhide H4).1.size) _ rfl ?_
                          intro g5 cap5 W5 hown5 hgrow5 hat5 hlt5
                          change K (Act.put _ (some 124) _) W5
                          have HS5 : Hid (W5.cell? (b.add (k * 7)) = some (.string yk) ∧ W5.cell? ⟨(b.add (k * 7)).block, (b.add (k * 7)).off + 2, none⟩ = some (.int .i64 y0) ∧ W5.cell? ⟨(b.add (k * 7)).block, (b.add (k * 7)).off + 3, none⟩ = some (.int .i64 y1) ∧ W5.cell? ⟨(b.add (k * 7)).block, (b.add (k * 7)).off + 4, none⟩ = some (.string y2) ∧ W5.cell? ⟨(b.add (k * 7)).block, (b.add (k * 7)).off + 5, none⟩ = some (.slice y3 y4 y5) ∧ W5.cell? ⟨(b.add (k * 7)).block, (b.add (k * 7)).off + 6, none⟩ = some (.slice y6 y7 y8)) := hide ⟨(hgrow5.cell_far (b.add (k * 7)) (Nat.lt_of_lt_of_le (unhide HYB).1 (unhide H4).1.size) (unhide HYB).2).trans ((unhide HS4).1), (hgrow5.cell_far ⟨(b.add (k * 7)).block, (b.add (k * 7)).off + 2, none⟩ (Nat.lt_of_lt_of_le (unhide HYB).1 (unhide H4).1.size) (unhide HYB).2).trans ((unhide HS4).2.1), (hgrow5.cell_far ⟨(b.add (k * 7)).block, (b.add (k * 7)).off + 3, none⟩ (Nat.lt_of_lt_of_le (unhide HYB).1 (unhide H4).1.size) (unhide HYB).2).trans ((unhide HS4).2.2.1), (hgrow5.cell_far ⟨(b.add (k * 7)).block, (b.add (k * 7)).off + 4, none⟩ (Nat.lt_of_lt_of_le (unhide HYB).1 (unhide H4).1.size) (unhide HYB).2).trans ((unhide HS4).2.2.2.1), (hgrow5.cell_far ⟨(b.add (k * 7)).block, (b.add (k * 7)).off + 5, none⟩ (Nat.lt_of_lt_of_le (unhide HYB).1 (unhide H4).1.size) (unhide HYB).2).trans ((unhide HS4).2.2.2.2.1), (hgrow5.cell_far ⟨(b.add (k * 7)).block, (b.add (k * 7)).off + 6, none⟩ (Nat.lt_of_lt_of_le (unhide HYB).1 (unhide H4).1.size) (unhide HYB).2).trans ((unhide HS4).2.2.2.2.2)⟩
                          have H5 := hide (And.intro hown5 (And.intro hgrow5 hat5))
                          refine hK.out _ _ (Or.inr (unhide HS5)) ?_
                          clear hK K hown5 hgrow5 hat5 hlt5 HS4
                          try simp only [Act.put, List.setIfInBounds_toArray, List.set_cons_zero, List.set_cons_succ]
                          refine till_one 15 (by kernel_rfl) rfl (fun K hK => ?_)
                          obtain ⟨b0, b1, b2, b3, b4, b5⟩ := unhide HS5
                          go_simp
                          refine hK.out _ _ (Or.inl (by first | rfl | trivial)) ?_
                          clear hK K b0 b1 b2 b3 b4 b5
                          try simp only [Act.put, List.setIfInBounds_toArray, List.set_cons_zero, List.set_cons_succ]
                          refine till_done (by kernel_rfl) ?_ _
                          have RR := hide (unhide HEND W4 W5 g5 cap5 (d0, d1, d2, d3, d4, d5, d6, d7, d8) (unhide H4).1 (unhide H4).2 (unhide H5).1 (unhide H5).2.1 (unhide H5).2.2)
                          clear HEND H4 H5 HOW HI HS5 at4 HYC HYB HCo
                          go_wp2_with fail
                          go_roundw
                          case rel => exact ⟨i + 1, k + 1, _, _, _, rfl, by first | rfl | go_num, by go_num, hide ⟨by omega, by omega⟩, HST, RR⟩
                          case measure => simp [intOf]; omega
                  | false =>
                    have hLf : ltK yk xk = true := by
                      cases h : ltK yk xk with
                      | true => rfl
                      | false => rw [(bytes_beqR _ _).2 (ltK_same hL1 h)] at hLe; cases hLe
                    go_upto_region 14 with fail
                    go_cut [67] from 51 to 84 (fun r wx => r = .bool false ∧ ∃ q, wx = wr.drewN q)
                    case first =>
                      go_quiet (fail)
                      go_wp2_with fail
                      go_meet
                      exact ⟨rfl, _, rfl⟩
                    case rest =>
                      obtain ⟨rfl, q1, hwc⟩ := hcut
                      have HW1 : Hid (Below wr.heap.size wr wc) := hide (by rw [hwc]; exact below_drew3 (Below.refl _ _) _)
                      clear hwc
                      obtain ⟨V1, hWW⟩ : ∃ W, wc = W := ⟨_, rfl⟩
                      rw [hWW] at HW1
                      rw [hWW]
                      clear hWW
                      have v0x : V1.cell? (a.add (i * 6)) = some (.string xk) := cell_later ((unhide HX5).trans ((unhide HW1).mono (unhide HX5).size)) ((unhide HXw).1)
                      have v0y : V1.cell? (b.add (k * 7)) = some (.string yk) := cell_later ((unhide HX5).trans ((unhide HW1).mono (unhide HX5).size)) ((unhide HYw).1)
                      clear r0x r0y
                      go_upto_region 17 with fail
                      go_cut [101] from 19 to 124 (fun r wx => r = .bool false ∧ ∃ q, wx = V1.drewN q)
                      case first =>
                        go_quiet (fail)
                        go_wp2_with fail
                        go_meet
                        exact ⟨rfl, _, rfl⟩
                      case rest =>
                        obtain ⟨rfl, q1, hwc⟩ := hcut
                        have HWr : Hid (Below wr.heap.size wr wc) := hide (by rw [hwc]; exact below_drew3 (unhide HW1) _)
                        clear hwc HW1
                        obtain ⟨W, hWW⟩ : ∃ W, wc = W := ⟨_, rfl⟩
                        rw [hWW] at HWr
                        rw [hWW]
                        clear hWW
                        have w1y : W.cell? ⟨(b.add (k * 7)).block, (b.add (k * 7)).off + 1, none⟩ = some (.bool gg) := cell_later ((unhide HX5).trans ((unhide HWr).mono (unhide HX5).size)) ((unhide HYw).2.1)
                        have HDQ : Hid (apL (es.length + cs.length - (i + k)) (es.drop i) (cs.drop k) = outA (none, some (yk, gg, yv)) ++ apL (es.length + cs.length - (i + (k + 1))) (es.drop i) (cs.drop (k + 1))) := hide (ap_hi hyy (by have := unhide HN; omega) (Or.inr ⟨_, hx, hLf⟩))
                        clear hyy hx hLe hLf
                        cases gg with
                        | true =>
                          have RR : Hid (RaI w W es cs AP (.slice so q sc) q i (k + 1)) := hide (by
                            obtain ⟨xs, h2, hq, hqi, h3, h5⟩ := unhide HX
                            exact ⟨xs, h2.later (unhide HWr), hq, by omega, by rw [← h3, unhide HDQ, outA_gone, List.nil_append], h5.trans ((unhide HWr).mono h5.size)⟩)
                          clear HDQ HX
                          go_wp2_with fail
                          go_roundw
                          case rel => exact ⟨i, k + 1, so, q, sc, rfl, by first | rfl | go_num, by go_num, hide ⟨by omega, by omega⟩, HST, RR⟩
                          case measure => simp [intOf]; omega
                        | false =>
                          have HDF : Hid (apL (es.length + cs.length - (i + k)) (es.drop i) (cs.drop k) = (yk, yv) :: apL (es.length + cs.length - (i + (k + 1))) (es.drop i) (cs.drop (k + 1))) := hide (by rw [unhide HDQ, outA_put]; rfl)
                          have HYR : Hid (rightB yv = true) := hide (unhide HYR0 rfl)
                          clear HDQ
                          obtain ⟨xs, h2, hq, hqi, h3, h5⟩ := unhide HX
                          have h2W := h2.later (unhide HWr)
                          have hDb : Below w.heap.size w W := h5.trans ((unhide HWr).mono h5.size)
                          have HYC : Hid (W.cell? (b.add (k * 7)) = some (.string yk) ∧ W.cell? ⟨(b.add (k * 7)).block, (b.add (k * 7)).off + 2, none⟩ = some (.int .i64 y0) ∧ W.cell? ⟨(b.add (k * 7)).block, (b.add (k * 7)).off + 3, none⟩ = some (.int .i64 y1) ∧ W.cell? ⟨(b.add (k * 7)).block, (b.add (k * 7)).off + 4, none⟩ = some (.string y2) ∧ W.cell? ⟨(b.add (k * 7)).block, (b.add (k * 7)).off + 5, none⟩ = some (.slice y3 y4 y5) ∧ W.cell? ⟨(b.add (k * 7)).block, (b.add (k * 7)).off + 6, none⟩ = some (.slice y6 y7 y8)) := hide ⟨cell_later hDb ((unhide HYw).1), cell_later hDb ((unhide HYw).2.2.1), cell_later hDb ((unhide HYw).2.2.2.1), cell_later hDb ((unhide HYw).2.2.2.2.1), cell_later hDb ((unhide HYw).2.2.2.2.2.1), cell_later hDb ((unhide HYw).2.2.2.2.2.2)⟩
                          have HYB : Hid ((b.add (k * 7)).block < W.heap.size ∧ some (b.add (k * 7)).block ≠ (Value.slice so q sc).ownBlock) := hide ⟨by have := hDb.size; have := unhide HBB; have := unhide HBb; rw [block_add]; omega, fun e => by rw [block_add] at e; have := (h2.row.lt b.block e.symm).1; have := unhide HBB; have := unhide HBb; omega⟩
                          have HCo : Hid (∀ u, Below W.heap.size W u → Calls Try.prog 27 #[.agg #[.int .i64 y0, .int .i64 y1, .string y2, .slice y3 y4 y5, .slice y6 y7 y8]] u fun e w' => ∃ d : Th5, e = .returned (.agg (th5 d).toArray) ∧ Below u.heap.size u w' ∧ IsQ w' (fun b => u.heap.size ≤ b ∧ b < w'.heap.size) yv (.agg (th5 d).toArray)) := hide (fun u hu => by
                            have hwu := hDb.trans (hu.mono hDb.size)
                            refine (copyD_any yv _ B u (IsV.mono (hwu.mono (unhide HBB)) (unhide HVY)) (Nat.le_trans (unhide HBB) hwu.size)).mono ?_
                            rintro e w' ⟨x', rfl, bb, qq, -⟩
                            have hq := qq (unhide HYR)
                            obtain ⟨d, rfl⟩ := isP_th5 hq.1
                            exact ⟨d, rfl, bb, hq⟩)
                          obtain ⟨CS, hCS⟩ : ∃ CS, cellsN xs = CS := ⟨_, rfl⟩
                          obtain ⟨lo, hlo⟩ : ∃ lo, w.heap.size = lo := ⟨_, rfl⟩
                          have HOW : Hid (∀ u, Below W.heap.size W u → u.ownsRow lo 48 6 (.slice so q sc) q CS) := hide (fun u hu => by
                            have := (h2W.later hu).row
                            rw [hq, hCS, hlo] at this
                            exact this)
                          have hloW : lo ≤ W.heap.size := by have := hDb.size; omega
                          obtain ⟨iv, hiv, hz0, hz1, hz2⟩ := info_parts infoEnN
                          have HI := hide (And.intro hiv (And.intro hz0 (And.intro hz1 hz2)))
                          have HEND : Hid (∀ (W4 W5 : World) (g5 cap5 : Nat) (c : Th5), Below W.heap.size W W4 → IsQ W4 (fun b => W.heap.size ≤ b ∧ b < W4.heap.size) yv (.agg (th5 c).toArray) → W5.ownsRow lo 48 6 (.slice (some ⟨g5, 0, none⟩) (q + 1) cap5) (q + 1) (CS ++ (.string yk :: th5 c)) → W4.grownBy W5 (Value.slice so q sc).ownBlock → ((Value.slice so q sc).ownBlock = some g5 ∨ g5 = W4.heap.size) → RaI w W5 es cs AP (.slice (some ⟨g5, 0, none⟩) (q + 1) cap5) (q + 1) i (k + 1)) := hide (by
                            intro W4 W5 g5 cap5 c b4 q4 o5 g5' a5
                            rw [← hlo, ← hCS] at o5
                            have hpush := h2W.push (k := yk) (c := c) (y := yv) hq b4 hDb.size q4 o5 g5' a5
                            refine ⟨_, hpush, by simp [hq], by omega, ?_, hDb.trans (((b4.mono hDb.size)).trans ?_)⟩
                            · rw [List.map_append, List.append_assoc, ← h3, unhide HDF]
                              rfl
                            · exact (Below.refl _ _).grown g5' (by have := hDb.size; have := b4.size; omega) (fun b hb => (h2.row.lt b hb).1))
                          have hq500 : q ≤ 384 := by have := unhide HI1; omega
                          clear h2 h2W h3 h5 hDb hq hqi hCS hiv hz0 hz1 hz2 HX
                          go_upto_region 20 with fail
                          have HS0 : Hid (W.drew.cell? (b.add (k * 7)) = some (.string yk) ∧ W.drew.cell? ⟨(b.add (k * 7)).block, (b.add (k * 7)).off + 2, none⟩ = some (.int .i64 y0) ∧ W.drew.cell? ⟨(b.add (k * 7)).block, (b.add (k * 7)).off + 3, none⟩ = some (.int .i64 y1) ∧ W.drew.cell? ⟨(b.add (k * 7)).block, (b.add (k * 7)).off + 4, none⟩ = some (.string y2) ∧ W.drew.cell? ⟨(b.add (k * 7)).block, (b.add (k * 7)).off + 5, none⟩ = some (.slice y3 y4 y5) ∧ W.drew.cell? ⟨(b.add (k * 7)).block, (b.add (k * 7)).off + 6, none⟩ = some (.slice y6 y7 y8)) := hide (unhide HYC)
                          refine till_begin (S := fun w' => w'.cell? (b.add (k * 7)) = some (.string yk) ∧ w'.cell? ⟨(b.add (k * 7)).block, (b.add (k * 7)).off + 2, none⟩ = some (.int .i64 y0) ∧ w'.cell? ⟨(b.add (k * 7)).block, (b.add (k * 7)).off + 3, none⟩ = some (.int .i64 y1) ∧ w'.cell? ⟨(b.add (k * 7)).block, (b.add (k * 7)).off + 4, none⟩ = some (.string y2) ∧ w'.cell? ⟨(b.add (k * 7)).block, (b.add (k * 7)).off + 5, none⟩ = some (.slice y3 y4 y5) ∧ w'.cell? ⟨(b.add (k * 7)).block, (b.add (k * 7)).off + 6, none⟩ = some (.slice y6 y7 y8)) 15 (by kernel_rfl) ?_
                          refine till_take 0 (v := .slice so q sc) (some 110) rfl rfl rfl (by kernel_rfl) (by kernel_rfl) (by kernel_rfl) (by kernel_rfl) (fun _ _ _ h => h) (Or.inl ⟨by rfl, fun u hu => by obtain ⟨b0, b1, b2, b3, b4, b5⟩ := hu; go_simp⟩) (unhide HS0) ?_
                          try simp only [Act.put, List.setIfInBounds_toArray, List.set_cons_zero, List.set_cons_succ]
                          refine till_take 1 (v := .slice (some b) m ck) (some 111) rfl rfl rfl (by kernel_rfl) (by kernel_rfl) (by kernel_rfl) (by kernel_rfl) (fun _ _ _ h => h) (Or.inl ⟨by rfl, fun u hu => by obtain ⟨b0, b1, b2, b3, b4, b5⟩ := hu; go_simp⟩) (unhide HS0) ?_
                          try simp only [Act.put, List.setIfInBounds_toArray, List.set_cons_zero, List.set_cons_succ]
                          refine till_take 2 (v := .int .i64 (k : Int)) (some 112) rfl rfl rfl (by kernel_rfl) (by kernel_rfl) (by kernel_rfl) (by kernel_rfl) (fun _ _ _ h => h) (Or.inl ⟨by rfl, fun u hu => by obtain ⟨b0, b1, b2, b3, b4, b5⟩ := hu; go_simp⟩) (unhide HS0) ?_
                          try simp only [Act.put, List.setIfInBounds_toArray, List.set_cons_zero, List.set_cons_succ]
                          refine till_take 3 (v := .pointer (some (b.add (k * 7)))) (some 113) rfl rfl rfl (by kernel_rfl) (by kernel_rfl) (by kernel_rfl) (by kernel_rfl) (fun _ _ _ h => h) (Or.inl ⟨by rfl, fun u hu => by obtain ⟨b0, b1, b2, b3, b4, b5⟩ := hu; go_simp⟩) (unhide HS0) ?_
                          try simp only [Act.put, List.setIfInBounds_toArray, List.set_cons_zero, List.set_cons_succ]
                          refine till_take 4 (v := .pointer (some (b.add (k * 7)))) (some 114) rfl rfl rfl (by kernel_rfl) (by kernel_rfl) (by kernel_rfl) (by kernel_rfl) (fun _ _ _ h => h) (Or.inl ⟨by rfl, fun u hu => by obtain ⟨b0, b1, b2, b3, b4, b5⟩ := hu; go_simp⟩) (unhide HS0) ?_
                          try simp only [Act.put, List.setIfInBounds_toArray, List.set_cons_zero, List.set_cons_succ]
                          refine till_take 5 (v := .string yk) (some 115) rfl rfl rfl (by kernel_rfl) (by kernel_rfl) (by kernel_rfl) (by kernel_rfl) (fun _ _ _ h => h) (Or.inl ⟨by rfl, fun u hu => by obtain ⟨b0, b1, b2, b3, b4, b5⟩ := hu; go_simp⟩) (unhide HS0) ?_
                          try simp only [Act.put, List.setIfInBounds_toArray, List.set_cons_zero, List.set_cons_succ]
                          refine till_take 6 (v := .slice (some b) m ck) (some 116) rfl rfl rfl (by kernel_rfl) (by kernel_rfl) (by kernel_rfl) (by kernel_rfl) (fun _ _ _ h => h) (Or.inl ⟨by rfl, fun u hu => by obtain ⟨b0, b1, b2, b3, b4, b5⟩ := hu; go_simp⟩) (unhide HS0) ?_
                          try simp only [Act.put, List.setIfInBounds_toArray, List.set_cons_zero, List.set_cons_succ]
                          refine till_take 7 (v := .int .i64 (k : Int)) (some 117) rfl rfl rfl (by kernel_rfl) (by kernel_rfl) (by kernel_rfl) (by kernel_rfl) (fun _ _ _ h => h) (Or.inl ⟨by rfl, fun u hu => by obtain ⟨b0, b1, b2, b3, b4, b5⟩ := hu; go_simp⟩) (unhide HS0) ?_
                          try simp only [Act.put, List.setIfInBounds_toArray, List.set_cons_zero, List.set_cons_succ]
                          refine till_take 8 (v := .pointer (some (b.add (k * 7)))) (some 118) rfl rfl rfl (by kernel_rfl) (by kernel_rfl) (by kernel_rfl) (by kernel_rfl) (fun _ _ _ h => h) (Or.inl ⟨by rfl, fun u hu => by obtain ⟨b0, b1, b2, b3, b4, b5⟩ := hu; go_simp⟩) (unhide HS0) ?_
                          try simp only [Act.put, List.setIfInBounds_toArray, List.set_cons_zero, List.set_cons_succ]
                          refine till_take 9 (v := .pointer (some ⟨(b.add (k * 7)).block, (b.add (k * 7)).off + 2, none⟩)) (some 119) rfl rfl rfl (by kernel_rfl) (by kernel_rfl) (by kernel_rfl) (by kernel_rfl) (fun _ _ _ h => h) (Or.inl ⟨by rfl, fun u hu => by obtain ⟨b0, b1, b2, b3, b4, b5⟩ := hu; go_simp⟩) (unhide HS0) ?_
                          try simp only [Act.put, List.setIfInBounds_toArray, List.set_cons_zero, List.set_cons_succ]
                          refine till_take 10 (v := .agg #[.int .i64 y0, .int .i64 y1, .string y2, .slice y3 y4 y5, .slice y6 y7 y8]) (some 120) rfl rfl rfl (by kernel_rfl) (by kernel_rfl) (by kernel_rfl) (by kernel_rfl) (fun _ _ _ h => h) (Or.inl ⟨by rfl, fun u hu => by obtain ⟨b0, b1, b2, b3, b4, b5⟩ := hu; go_simp⟩) (unhide HS0) ?_
                          try simp only [Act.put, List.setIfInBounds_toArray, List.set_cons_zero, List.set_cons_succ]
                          refine till_one 11 (by kernel_rfl) rfl (fun K hK => ?_)
                          go_simp
                          refine (unhide HCo W.drew (below_drew_to3 (Below.refl _ _))).mono ?_
                          rintro e W3 ⟨⟨d0, d1, d2, d3, d4, d5, d6, d7, d8⟩, rfl, b3, q3⟩
                          dsimp only [th5] at q3 ⊢
                          have X3 : Below W.heap.size W W3 := below_drew_of' b3
                          have HS3 : Hid (W3.cell? (b.add (k * 7)) = some (.string yk) ∧ W3.cell? ⟨(b.add (k * 7)).block, (b.add (k * 7)).off + 2, none⟩ = some (.int .i64 y0) ∧ W3.cell? ⟨(b.add (k * 7)).block, (b.add (k * 7)).off + 3, none⟩ = some (.int .i64 y1) ∧ W3.cell? ⟨(b.add (k * 7)).block, (b.add (k * 7)).off + 4, none⟩ = some (.string y2) ∧ W3.cell? ⟨(b.add (k * 7)).block, (b.add (k * 7)).off + 5, none⟩ = some (.slice y3 y4 y5) ∧ W3.cell? ⟨(b.add (k * 7)).block, (b.add (k * 7)).off + 6, none⟩ = some (.slice y6 y7 y8)) := hide ⟨cell_later X3 ((unhide HS0).1), cell_later X3 ((unhide HS0).2.1), cell_later X3 ((unhide HS0).2.2.1), cell_later X3 ((unhide HS0).2.2.2.1), cell_later X3 ((unhide HS0).2.2.2.2.1), cell_later X3 ((unhide HS0).2.2.2.2.2)⟩
                          have H3 : Hid (Below W.heap.size W W3 ∧ IsQ W3 (fun b => W.heap.size ≤ b ∧ b < W3.heap.size) yv (.agg #[.int .i64 d0, .int .i64 d1, .string d2, .slice d3 d4 d5, .slice d6 d7 d8])) := hide ⟨X3, q3⟩
                          clear b3 q3 X3
                          go_wp2_with fail
                          refine hK.out _ _ (Or.inr (unhide HS3)) ?_
                          clear hK K HS0
                          try simp only [Act.put, List.setIfInBounds_toArray, List.set_cons_zero, List.set_cons_succ]
                          refine till_one 12 (by kernel_rfl) rfl (fun K hK => ?_)
                          obtain ⟨b0, b1, b2, b3, b4, b5⟩ := unhide HS3
                          go_simp
                          refine hK.out _ _ (Or.inr (unhide HS3)) ?_
                          clear hK K b0 b1 b2 b3 b4 b5
                          try simp only [Act.put, List.setIfInBounds_toArray, List.set_cons_zero, List.set_cons_succ]
                          refine till_one 13 (by kernel_rfl) rfl (fun K hK => ?_)
                          go_simp
                          obtain ⟨W4, hW4⟩ : ∃ W4, W3.alloc (.cells #[.string yk, .int .i64 d0, .int .i64 d1, .string d2, .slice d3 d4 d5, .slice d6 d7 d8] 48) = W4 := ⟨_, rfl⟩
                          have X4 : Below W3.heap.size W3 W4 := by rw [← hW4]; exact (Below.refl _ _).alloc (Nat.le_refl _) _
                          have at4 : W4.heap[W3.heap.size]? = some (.cells #[.string yk, .int .i64 d0, .int .i64 d1, .string d2, .slice d3 d4 d5, .slice d6 d7 d8] 48 (0, 0)) := by rw [← hW4]; exact heap_alloc_new W3 _
                          try rw [hW4]
                          have HS4 : Hid (W4.cell? (b.add (k * 7)) = some (.string yk) ∧ W4.cell? ⟨(b.add (k * 7)).block, (b.add (k * 7)).off + 2, none⟩ = some (.int .i64 y0) ∧ W4.cell? ⟨(b.add (k * 7)).block, (b.add (k * 7)).off + 3, none⟩ = some (.int .i64 y1) ∧ W4.cell? ⟨(b.add (k * 7)).block, (b.add (k * 7)).off + 4, none⟩ = some (.string y2) ∧ W4.cell? ⟨(b.add (k * 7)).block, (b.add (k * 7)).off + 5, none⟩ = some (.slice y3 y4 y5) ∧ W4.cell? ⟨(b.add (k * 7)).block, (b.add (k * 7)).off + 6, none⟩ = some (.slice y6 y7 y8)) := hide ⟨cell_later X4 ((unhide HS3).1), cell_later X4 ((unhide HS3).2.1), cell_later X4 ((unhide HS3).2.2.1), cell_later X4 ((unhide HS3).2.2.2.1), cell_later X4 ((unhide HS3).2.2.2.2.1), cell_later X4 ((unhide HS3).2.2.2.2.2)⟩
                          have H4 : Hid (Below W.heap.size W W4 ∧ IsQ W4 (fun b => W.heap.size ≤ b ∧ b < W4.heap.size) yv (.agg #[.int .i64 d0, .int .i64 d1, .string d2, .slice d3 d4 d5, .slice d6 d7 d8])) := hide ⟨(unhide H3).1.trans (X4.mono (unhide H3).1.size), ((unhide H3).2.move (fun b hb => X4.block b hb.2)).weak (fun b hb => ⟨hb.1, Nat.lt_of_lt_of_le hb.2 X4.size⟩)⟩
                          obtain ⟨h3s, hh3s⟩ : ∃ h3s, W3.heap.size = h3s := ⟨_, rfl⟩
                          rw [hh3s] at at4
                          try rw [hh3s]
                          refine hK.out _ _ (Or.inr (unhide HS4)) ?_
                          clear hK K hW4 X4 hh3s HS3 H3
                          try simp only [Act.put, List.setIfInBounds_toArray, List.set_cons_zero, List.set_cons_succ]
                          refine till_one 14 (by kernel_rfl) rfl (fun K hK => ?_)
                          refine step_append_lies _ (by rfl) _ _ 22 (by rfl) lo 48 iv (.agg #[.string ⟨#[]⟩, .int .i64 0, .int .i64 0, .string ⟨#[]⟩, .slice none 0 0, .slice none 0 0]) 6 96 Try.underlying22 (unhide HI).1 (unhide HI).2.1 (unhide HI).2.2.1 (unhide HI).2.2.2 rfl (by omega) (.slice so q sc) q CS (by rfl) (unhide HOW W4 (unhide H4).1) ⟨h3s, 0, none⟩ 1 1 [.string yk, .int .i64 d0, .int .i64 d1, .string d2, .slice d3 d4 d5, .slice d6 d7 d8] (by rfl) (by rfl) (World.news_of_block at4) (by simp [Value.oneCell']) (by omega) (by unfold maxLen; omega) (by omega) (Nat.le_trans hloW (unhide H4).1.size) _ rfl ?_
                          intro g5 cap5 W5 hown5 hgrow5 hat5 hlt5
                          change K (Act.put _ (some 124) _) W5
                          have HS5 : Hid (W5.cell? (b.add (k * 7)) = some (.string yk) ∧ W5.cell? ⟨(b.add (k * 7)).block, (b.add (k * 7)).off + 2, none⟩ = some (.int .i64 y0) ∧ W5.cell? ⟨(b.add (k * 7)).block, (b.add (k * 7)).off + 3, none⟩ = some (.int .i64 y1) ∧ W5.cell? ⟨(b.add (k * 7)).block, (b.add (k * 7)).off + 4, none⟩ = some (.string y2) ∧ W5.cell? ⟨(b.add (k * 7)).block, (b.add (k * 7)).off + 5, none⟩ = some (.slice y3 y4 y5) ∧ W5.cell? ⟨(b.add (k * 7)).block, (b.add (k * 7)).off + 6, none⟩ = some (.slice y6 y7 y8)) := hide ⟨(hgrow5.cell_far (b.add (k * 7)) (Nat.lt_of_lt_of_le (unhide HYB).1 (unhide H4).1.size) (unhide HYB).2).trans ((unhide HS4).1), (hgrow5.cell_far ⟨(b.add (k * 7)).block, (b.add (k * 7)).off + 2, none⟩ (Nat.lt_of_lt_of_le (unhide HYB).1 (unhide H4).1.size) (unhide HYB).2).trans ((unhide HS4).2.1), (hgrow5.cell_far ⟨(b.add (k * 7)).block, (b.add (k * 7)).off + 3, none⟩ (Nat.lt_of_lt_of_le (unhide HYB).1 (unhide H4).1.size) (unhide HYB).2).trans ((unhide HS4).2.2.1), (hgrow5.cell_far ⟨(b.add (k * 7)).block, (b.add (k * 7)).off + 4, none⟩ (Nat.lt_of_lt_of_le (unhide HYB).1 (unhide H4).1.size) (unhide HYB).2).trans ((unhide HS4).2.2.2.1), (hgrow5.cell_far ⟨(b.add (k * 7)).block, (b.add (k * 7)).off + 5, none⟩ (Nat.lt_of_lt_of_le (unhide HYB).1 (unhide H4).1.size) (unhide HYB).2).trans ((unhide HS4).2.2.2.2.1), (hgrow5.cell_far ⟨(b.add (k * 7)).block, (b.add (k * 7)).off + 6, none⟩ (Nat.lt_of_lt_of_le (unhide HYB).1 (unhide H4).1.size) (unhide HYB).2).trans ((unhide HS4).2.2.2.2.2)⟩
                          have H5 := hide (And.intro hown5 (And.intro hgrow5 hat5))
                          refine hK.out _ _ (Or.inr (unhide HS5)) ?_
                          clear hK K hown5 hgrow5 hat5 hlt5 HS4
                          try simp only [Act.put, List.setIfInBounds_toArray, List.set_cons_zero, List.set_cons_succ]
                          refine till_one 15 (by kernel_rfl) rfl (fun K hK => ?_)
                          obtain ⟨b0, b1, b2, b3, b4, b5⟩ := unhide HS5
                          go_simp
                          refine hK.out _ _ (Or.inl (by first | rfl | trivial)) ?_
                          clear hK K b0 b1 b2 b3 b4 b5
                          try simp only [Act.put, List.setIfInBounds_toArray, List.set_cons_zero, List.set_cons_succ]
                          refine till_done (by kernel_rfl) ?_ _
                          have RR := hide (unhide HEND W4 W5 g5 cap5 (d0, d1, d2, d3, d4, d5, d6, d7, d8) (unhide H4).1 (unhide H4).2 (unhide H5).1 (unhide H5).2.1 (unhide H5).2.2)
                          clear HEND H4 H5 HOW HI HS5 at4 HYC HYB HCo
                          go_wp2_with fail
                          go_roundw
                          case rel => exact ⟨i, k + 1, _, _, _, rfl, by first | rfl | go_num, by go_num, hide ⟨by omega, by omega⟩, HST, RR⟩
                          case measure => simp [intOf]; omega
              · have j1 : ¬ (i : Int) < (n : Int) := by omega
                go_upto_region 14 with fail
                go_cut [67] from 51 to 84 (fun r wx => r = .bool false ∧ ∃ q, wx = wr.drewN q)
                case first =>
                  go_quiet (fail)
                  go_wp2_with fail
                  go_meet
                  exact ⟨rfl, _, rfl⟩
                case rest =>
                  obtain ⟨rfl, q1, hwc⟩ := hcut
                  have HW1 : Hid (Below wr.heap.size wr wc) := hide (by rw [hwc]; exact below_drew3 (Below.refl _ _) _)
                  clear hwc
                  obtain ⟨V1, hWW⟩ : ∃ W, wc = W := ⟨_, rfl⟩
                  rw [hWW] at HW1
                  rw [hWW]
                  clear hWW
                  go_upto_region 17 with fail
                  go_cut [101] from 19 to 124 (fun r wx => r = .bool false ∧ ∃ q, wx = V1.drewN q)
                  case first =>
                    go_quiet (fail)
                    go_wp2_with fail
                    go_meet
                    exact ⟨rfl, _, rfl⟩
                  case rest =>
                    obtain ⟨rfl, q1, hwc⟩ := hcut
                    have HWr : Hid (Below wr.heap.size wr wc) := hide (by rw [hwc]; exact below_drew3 (unhide HW1) _)
                    clear hwc HW1
                    obtain ⟨W, hWW⟩ : ∃ W, wc = W := ⟨_, rfl⟩
                    rw [hWW] at HWr
                    rw [hWW]
                    clear hWW
                    have w1y : W.cell? ⟨(b.add (k * 7)).block, (b.add (k * 7)).off + 1, none⟩ = some (.bool gg) := cell_later ((unhide HX5).trans ((unhide HWr).mono (unhide HX5).size)) ((unhide HYw).2.1)
                    have HDQ : Hid (apL (es.length + cs.length - (i + k)) (es.drop i) (cs.drop k) = outA (none, some (yk, gg, yv)) ++ apL (es.length + cs.length - (i + (k + 1))) (es.drop i) (cs.drop (k + 1))) := hide (ap_hi hyy (by have := unhide HN; omega) (Or.inl (by have := unhide HN; omega)))
                    clear hyy
                    cases gg with
                    | true =>
                      have RR : Hid (RaI w W es cs AP (.slice so q sc) q i (k + 1)) := hide (by
                        obtain ⟨xs, h2, hq, hqi, h3, h5⟩ := unhide HX
                        exact ⟨xs, h2.later (unhide HWr), hq, by omega, by rw [← h3, unhide HDQ, outA_gone, List.nil_append], h5.trans ((unhide HWr).mono h5.size)⟩)
                      clear HDQ HX
                      go_wp2_with fail
                      go_roundw
                      case rel => exact ⟨i, k + 1, so, q, sc, rfl, by first | rfl | go_num, by go_num, hide ⟨by omega, by omega⟩, HST, RR⟩
                      case measure => simp [intOf]; omega
                    | false =>
                      have HDF : Hid (apL (es.length + cs.length - (i + k)) (es.drop i) (cs.drop k) = (yk, yv) :: apL (es.length + cs.length - (i + (k + 1))) (es.drop i) (cs.drop (k + 1))) := hide (by rw [unhide HDQ, outA_put]; rfl)
                      have HYR : Hid (rightB yv = true) := hide (unhide HYR0 rfl)
                      clear HDQ
                      obtain ⟨xs, h2, hq, hqi, h3, h5⟩ := unhide HX
                      have h2W := h2.later (unhide HWr)
                      have hDb : Below w.heap.size w W := h5.trans ((unhide HWr).mono h5.size)
                      have HYC : Hid (W.cell? (b.add (k * 7)) = some (.string yk) ∧ W.cell? ⟨(b.add (k * 7)).block, (b.add (k * 7)).off + 2, none⟩ = some (.int .i64 y0) ∧ W.cell? ⟨(b.add (k * 7)).block, (b.add (k * 7)).off + 3, none⟩ = some (.int .i64 y1) ∧ W.cell? ⟨(b.add (k * 7)).block, (b.add (k * 7)).off + 4, none⟩ = some (.string y2) ∧ W.cell? ⟨(b.add (k * 7)).block, (b.add (k * 7)).off + 5, none⟩ = some (.slice y3 y4 y5) ∧ W.cell? ⟨(b.add (k * 7)).block, (b.add (k * 7)).off + 6, none⟩ = some (.slice y6 y7 y8)) := hide ⟨cell_later hDb ((unhide HYw).1), cell_later hDb ((unhide HYw).2.2.1), cell_later hDb ((unhide HYw).2.2.2.1), cell_later hDb ((unhide HYw).2.2.2.2.1), cell_later hDb ((unhide HYw).2.2.2.2.2.1), cell_later hDb ((unhide HYw).2.2.2.2.2.2)⟩
                      have HYB : Hid ((b.add (k * 7)).block < W.heap.size ∧ some (b.add (k * 7)).block ≠ (Value.slice so q sc).ownBlock) := hide ⟨by have := hDb.size; have := unhide HBB; have := unhide HBb; rw [block_add]; omega, fun e => by rw [block_add] at e; have := (h2.row.lt b.block e.symm).1; have := unhide HBB; have := unhide HBb; omega⟩
                      have HCo : Hid (∀ u, Below W.heap.size W u → Calls Try.prog 27 #[.agg #[.int .i64 y0, .int .i64 y1, .string y2, .slice y3 y4 y5, .slice y6 y7 y8]] u fun e w' => ∃ d : Th5, e = .returned (.agg (th5 d).toArray) ∧ Below u.heap.size u w' ∧ IsQ w' (fun b => u.heap.size ≤ b ∧ b < w'.heap.size) yv (.agg (th5 d).toArray)) := hide (fun u hu => by
                        have hwu := hDb.trans (hu.mono hDb.size)
                        refine (copyD_any yv _ B u (IsV.mono (hwu.mono (unhide HBB)) (unhide HVY)) (Nat.le_trans (unhide HBB) hwu.size)).mono ?_
                        rintro e w' ⟨x', rfl, bb, qq, -⟩
                        have hq := qq (unhide HYR)
                        obtain ⟨d, rfl⟩ := isP_th5 hq.1
                        exact ⟨d, rfl, bb, hq⟩)
                      obtain ⟨CS, hCS⟩ : ∃ CS, cellsN xs = CS := ⟨_, rfl⟩
                      obtain ⟨lo, hlo⟩ : ∃ lo, w.heap.size = lo := ⟨_, rfl⟩
                      have HOW : Hid (∀ u, Below W.heap.size W u → u.ownsRow lo 48 6 (.slice so q sc) q CS) := hide (fun u hu => by
                        have := (h2W.later hu).row
                        rw [hq, hCS, hlo] at this
                        exact this)
                      have hloW : lo ≤ W.heap.size := by have := hDb.size; omega
                      obtain ⟨iv, hiv, hz0, hz1, hz2⟩ := info_parts infoEnN
                      have HI := hide (And.intro hiv (And.intro hz0 (And.intro hz1 hz2)))
                      have HEND : Hid (∀ (W4 W5 : World) (g5 cap5 : Nat) (c : Th5), Below W.heap.size W W4 → IsQ W4 (fun b => W.heap.size ≤ b ∧ b < W4.heap.size) yv (.agg (th5 c).toArray) → W5.ownsRow lo 48 6 (.slice (some ⟨g5, 0, none⟩) (q + 1) cap5) (q + 1) (CS ++ (.string yk :: th5 c)) → W4.grownBy W5 (Value.slice so q sc).ownBlock → ((Value.slice so q sc).ownBlock = some g5 ∨ g5 = W4.heap.size) → RaI w W5 es cs AP (.slice (some ⟨g5, 0, none⟩) (q + 1) cap5) (q + 1) i (k + 1)) := hide (by
                        intro W4 W5 g5 cap5 c b4 q4 o5 g5' a5
                        rw [← hlo, ← hCS] at o5
                        have hpush := h2W.push (k := yk) (c := c) (y := yv) hq b4 hDb.size q4 o5 g5' a5
                        refine ⟨_, hpush, by simp [hq], by omega, ?_, hDb.trans (((b4.mono hDb.size)).trans ?_)⟩
                        · rw [List.map_append, List.append_assoc, ← h3, unhide HDF]
                          rfl
                        · exact (Below.refl _ _).grown g5' (by have := hDb.size; have := b4.size; omega) (fun b hb => (h2.row.lt b hb).1))
                      have hq500 : q ≤ 384 := by have := unhide HI1; omega
                      clear h2 h2W h3 h5 hDb hq hqi hCS hiv hz0 hz1 hz2 HX
                      go_upto_region 20 with fail
                      have HS0 : Hid (W.drew.cell? (b.add (k * 7)) = some (.string yk) ∧ W.drew.cell? ⟨(b.add (k * 7)).block, (b.add (k * 7)).off + 2, none⟩ = some (.int .i64 y0) ∧ W.drew.cell? ⟨(b.add (k * 7)).block, (b.add (k * 7)).off + 3, none⟩ = some (.int .i64 y1) ∧ W.drew.cell? ⟨(b.add (k * 7)).block, (b.add (k * 7)).off + 4, none⟩ = some (.string y2) ∧ W.drew.cell? ⟨(b.add (k * 7)).block, (b.add (k * 7)).off + 5, none⟩ = some (.slice y3 y4 y5) ∧ W.drew.cell? ⟨(b.add (k * 7)).block, (b.add (k * 7)).off + 6, none⟩ = some (.slice y6 y7 y8)) := hide (unhide HYC)
                      refine till_begin (S := fun w' => w'.cell? (b.add (k * 7)) = some (.string yk) ∧ w'.cell? ⟨(b.add (k * 7)).block, (b.add (k * 7)).off + 2, none⟩ = some (.int .i64 y0) ∧ w'.cell? ⟨(b.add (k * 7)).block, (b.add (k * 7)).off + 3, none⟩ = some (.int .i64 y1) ∧ w'.cell? ⟨(b.add (k * 7)).block, (b.add (k * 7)).off + 4, none⟩ = some (.string y2) ∧ w'.cell? ⟨(b.add (k * 7)).block, (b.add (k * 7)).off + 5, none⟩ = some (.slice y3 y4 y5) ∧ w'.cell? ⟨(b.add (k * 7)).block, (b.add (k * 7)).off + 6, none⟩ = some (.slice y6 y7 y8)) 15 (by kernel_rfl) ?_
                      refine till_take 0 (v := .slice so q sc) (some 110) rfl rfl rfl (by kernel_rfl) (by kernel_rfl) (by kernel_rfl) (by kernel_rfl) (fun _ _ _ h => h) (Or.inl ⟨by rfl, fun u hu => by obtain ⟨b0, b1, b2, b3, b4, b5⟩ := hu; go_simp⟩) (unhide HS0) ?_
                      try simp only [Act.put, List.setIfInBounds_toArray, List.set_cons_zero, List.set_cons_succ]
                      refine till_take 1 (v := .slice (some b) m ck) (some 111) rfl rfl rfl (by kernel_rfl) (by kernel_rfl) (by kernel_rfl) (by kernel_rfl) (fun _ _ _ h => h) (Or.inl ⟨by rfl, fun u hu => by obtain ⟨b0, b1, b2, b3, b4, b5⟩ := hu; go_simp⟩) (unhide HS0) ?_
                      try simp only [Act.put, List.setIfInBounds_toArray, List.set_cons_zero, List.set_cons_succ]
                      refine till_take 2 (v := .int .i64 (k : Int)) (some 112) rfl rfl rfl (by kernel_rfl) (by kernel_rfl) (by kernel_rfl) (by kernel_rfl) (fun _ _ _ h => h) (Or.inl ⟨by rfl, fun u hu => by obtain ⟨b0, b1, b2, b3, b4, b5⟩ := hu; go_simp⟩) (unhide HS0) ?_
                      try simp only [Act.put, List.setIfInBounds_toArray, List.set_cons_zero, List.set_cons_succ]
                      refine till_take 3 (v := .pointer (some (b.add (k * 7)))) (some 113) rfl rfl rfl (by kernel_rfl) (by kernel_rfl) (by kernel_rfl) (by kernel_rfl) (fun _ _ _ h => h) (Or.inl ⟨by rfl, fun u hu => by obtain ⟨b0, b1, b2, b3, b4, b5⟩ := hu; go_simp⟩) (unhide HS0) ?_
                      try simp only [Act.put, List.setIfInBounds_toArray, List.set_cons_zero, List.set_cons_succ]
                      refine till_take 4 (v := .pointer (some (b.add (k * 7)))) (some 114) rfl rfl rfl (by kernel_rfl) (by kernel_rfl) (by kernel_rfl) (by kernel_rfl) (fun _ _ _ h => h) (Or.inl ⟨by rfl, fun u hu => by obtain ⟨b0, b1, b2, b3, b4, b5⟩ := hu; go_simp⟩) (unhide HS0) ?_
                      try simp only [Act.put, List.setIfInBounds_toArray, List.set_cons_zero, List.set_cons_succ]
                      refine till_take 5 (v := .string yk) (some 115) rfl rfl rfl (by kernel_rfl) (by kernel_rfl) (by kernel_rfl) (by kernel_rfl) (fun _ _ _ h => h) (Or.inl ⟨by rfl, fun u hu => by obtain ⟨b0, b1, b2, b3, b4, b5⟩ := hu; go_simp⟩) (unhide HS0) ?_
                      try simp only [Act.put, List.setIfInBounds_toArray, List.set_cons_zero, List.set_cons_succ]
                      refine till_take 6 (v := .slice (some b) m ck) (some 116) rfl rfl rfl (by kernel_rfl) (by kernel_rfl) (by kernel_rfl) (by kernel_rfl) (fun _ _ _ h => h) (Or.inl ⟨by rfl, fun u hu => by obtain ⟨b0, b1, b2, b3, b4, b5⟩ := hu; go_simp⟩) (unhide HS0) ?_
                      try simp only [Act.put, List.setIfInBounds_toArray, List.set_cons_zero, List.set_cons_succ]
                      refine till_take 7 (v := .int .i64 (k : Int)) (some 117) rfl rfl rfl (by kernel_rfl) (by kernel_rfl) (by kernel_rfl) (by kernel_rfl) (fun _ _ _ h => h) (Or.inl ⟨by rfl, fun u hu => by obtain ⟨b0, b1, b2, b3, b4, b5⟩ := hu; go_simp⟩) (unhide HS0) ?_
                      try simp only [Act.put, List.setIfInBounds_toArray, List.set_cons_zero, List.set_cons_succ]
                      refine till_take 8 (v := .pointer (some (b.add (k * 7)))) (some 118) rfl rfl rfl (by kernel_rfl) (by kernel_rfl) (by kernel_rfl) (by kernel_rfl) (fun _ _ _ h => h) (Or.inl ⟨by rfl, fun u hu => by obtain ⟨b0, b1, b2, b3, b4, b5⟩ := hu; go_simp⟩) (unhide HS0) ?_
                      try simp only [Act.put, List.setIfInBounds_toArray, List.set_cons_zero, List.set_cons_succ]
                      refine till_take 9 (v := .pointer (some ⟨(b.add (k * 7)).block, (b.add (k * 7)).off + 2, none⟩)) (some 119) rfl rfl rfl (by kernel_rfl) (by kernel_rfl) (by kernel_rfl) (by kernel_rfl) (fun _ _ _ h => h) (Or.inl ⟨by rfl, fun u hu => by obtain ⟨b0, b1, b2, b3, b4, b5⟩ := hu; go_simp⟩) (unhide HS0) ?_
                      try simp only [Act.put, List.setIfInBounds_toArray, List.set_cons_zero, List.set_cons_succ]
                      refine till_take 10 (v := .agg #[.int .i64 y0, .int .i64 y1, .string y2, .slice y3 y4 y5, .slice y6 y7 y8]) (some 120) rfl rfl rfl (by kernel_rfl) (by kernel_rfl) (by kernel_rfl) (by kernel_rfl) (fun _ _ _ h => h) (Or.inl ⟨by rfl, fun u hu => by obtain ⟨b0, b1, b2, b3, b4, b5⟩ := hu; go_simp⟩) (unhide HS0) ?_
                      try simp only [Act.put, List.setIfInBounds_toArray, List.set_cons_zero, List.set_cons_succ]
                      refine till_one 11 (by kernel_rfl) rfl (fun K hK => ?_)
                      go_simp
                      refine (unhide HCo W.drew (below_drew_to3 (Below.refl _ _))).mono ?_
                      rintro e W3 ⟨⟨d0, d1, d2, d3, d4, d5, d6, d7, d8⟩, rfl, b3, q3⟩
                      dsimp only [th5] at q3 ⊢
                      have X3 : Below W.heap.size W W3 := below_drew_of' b3
                      have HS3 : Hid (W3.cell? (b.add (k * 7)) = some (.string yk) ∧ W3.cell? ⟨(b.add (k * 7)).block, (b.add (k * 7)).off + 2, none⟩ = some (.int .i64 y0) ∧ W3.cell? ⟨(b.add (k * 7)).block, (b.add (k * 7)).off + 3, none⟩ = some (.int .i64 y1) ∧ W3.cell? ⟨(b.add (k * 7)).block, (b.add (k * 7)).off + 4, none⟩ = some (.string y2) ∧ W3.cell? ⟨(b.add (k * 7)).block, (b.add (k * 7)).off + 5, none⟩ = some (.slice y3 y4 y5) ∧ W3.cell? ⟨(b.add (k * 7)).block, (b.add (k * 7)).off + 6, none⟩ = some (.slice y6 y7 y8)) := hide ⟨cell_later X3 ((unhide HS0).1), cell_later X3 ((unhide HS0).2.1), cell_later X3 ((unhide HS0).2.2.1), cell_later X3 ((unhide HS0).2.2.2.1), cell_later X3 ((unhide HS0).2.2.2.2.1), cell_later X3 ((unhide HS0).2.2.2.2.2)⟩
                      have H3 : Hid (Below W.heap.size W W3 ∧ IsQ W3 (fun b => W.heap.size ≤ b ∧ b < W3.heap.size) yv (.agg #[.int .i64 d0, .int .i64 d1, .string d2, .slice d3 d4 d5, .slice d6 d7 d8])) := hide ⟨X3, q3⟩
                      clear b3 q3 X3
                      go_wp2_with fail
                      refine hK.out _ _ (Or.inr (unhide HS3)) ?_
                      clear hK K HS0
                      try simp only [Act.put, List.setIfInBounds_toArray, List.set_cons_zero, List.set_cons_succ]
                      refine till_one 12 (by kernel_rfl) rfl (fun K hK => ?_)
                      obtain ⟨b0, b1, b2, b3, b4, b5⟩ := unhide HS3
                      go_simp
                      refine hK.out _ _ (Or.inr (unhide HS3)) ?_
                      clear hK K b0 b1 b2 b3 b4 b5
                      try simp only [Act.put, List.setIfInBounds_toArray, List.set_cons_zero, List.set_cons_succ]
                      refine till_one 13 (by kernel_rfl) rfl (fun K hK => ?_)
                      go_simp
                      obtain ⟨W4, hW4⟩ : ∃ W4, W3.alloc (.cells #[.string yk, .int .i64 d0, .int .i64 d1, .string d2, .slice d3 d4 d5, .slice d6 d7 d8] 48) = W4 := ⟨_, rfl⟩
                      have X4 : Below W3.heap.size W3 W4 := by rw [← hW4]; exact (Below.refl _ _).alloc (Nat.le_refl _) _
                      have at4 : W4.heap[W3.heap.size]? = some (.cells #[.string yk, .int .i64 d0, .int .i64 d1, .string d2, .slice d3 d4 d5, .slice d6 d7 d8] 48 (0, 0)) := by rw [← hW4]; exact heap_alloc_new W3 _
                      try rw [hW4]
                      have HS4 : Hid (W4.cell? (b.add (k * 7)) = some (.string yk) ∧ W4.cell? ⟨(b.add (k * 7)).block, (b.add (k * 7)).off + 2, none⟩ = some (.int .i64 y0) ∧ W4.cell? ⟨(b.add (k * 7)).block, (b.add (k * 7)).off + 3, none⟩ = some (.int .i64 y1) ∧ W4.cell? ⟨(b.add (k * 7)).block, (b.add (k * 7)).off + 4, none⟩ = some (.string y2) ∧ W4.cell? ⟨(b.add (k * 7)).block, (b.add (k * 7)).off + 5, none⟩ = some (.slice y3 y4 y5) ∧ W4.cell? ⟨(b.add (k * 7)).block, (b.add (k * 7)).off + 6, none⟩ = some (.slice y6 y7 y8)) := hide ⟨cell_later X4 ((unhide HS3).1), cell_later X4 ((unhide HS3).2.1), cell_later X4 ((unhide HS3).2.2.1), cell_later X4 ((unhide HS3).2.2.2.1), cell_later X4 ((unhide HS3).2.2.2.2.1), cell_later X4 ((unhide HS3).2.2.2.2.2)⟩
                      have H4 : Hid (Below W.heap.size W W4 ∧ IsQ W4 (fun b => W.heap.size ≤ b ∧ b < W4.heap.size) yv (.agg #[.int .i64 d0, .int .i64 d1, .string d2, .slice d3 d4 d5, .slice d6 d7 d8])) := hide ⟨(unhide H3).1.trans (X4.mono (unhide H3).1.size), ((unhide H3).2.move (fun b hb => X4.block b hb.2)).weak (fun b hb => ⟨hb.1, Nat.lt_of_lt_of_le hb.2 X4.size⟩)⟩
                      obtain ⟨h3s, hh3s⟩ : ∃ h3s, W3.heap.size = h3s := ⟨_, rfl⟩
                      rw [hh3s] at at4
                      try rw [hh3s]
                      refine hK.out _ _ (Or.inr (unhide HS4)) ?_
                      clear hK K hW4 X4 hh3s HS3 H3
                      try simp only [Act.put, List.setIfInBounds_toArray, List.set_cons_zero, List.set_cons_succ]
                      refine till_one 14 (by kernel_rfl) rfl (fun K hK => ?_)
                      refine step_append_lies _ (by rfl) _ _ 22 (by rfl) lo 48 iv (.agg #[.string ⟨#[]⟩, .int .i64 0, .int .i64 0, .string ⟨#[]⟩, .slice none 0 0, .slice none 0 0]) 6 96 Try.underlying22 (unhide HI).1 (unhide HI).2.1 (unhide HI).2.2.1 (unhide HI).2.2.2 rfl (by omega) (.slice so q sc) q CS (by rfl) (unhide HOW W4 (unhide H4).1) ⟨h3s, 0, none⟩ 1 1 [.string yk, .int .i64 d0, .int .i64 d1, .string d2, .slice d3 d4 d5, .slice d6 d7 d8] (by rfl) (by rfl) (World.news_of_block at4) (by simp [Value.oneCell']) (by omega) (by unfold maxLen; omega) (by omega) (Nat.le_trans hloW (unhide H4).1.size) _ rfl ?_
                      intro g5 cap5 W5 hown5 hgrow5 hat5 hlt5
                      change K (Act.put _ (some 124) _) W5
                      have HS5 : Hid (W5.cell? (b.add (k * 7)) = some (.string yk) ∧ W5.cell? ⟨(b.add (k * 7)).block, (b.add (k * 7)).off + 2, none⟩ = some (.int .i64 y0) ∧ W5.cell? ⟨(b.add (k * 7)).block, (b.add (k * 7)).off + 3, none⟩ = some (.int .i64 y1) ∧ W5.cell? ⟨(b.add (k * 7)).block, (b.add (k * 7)).off + 4, none⟩ = some (.string y2) ∧ W5.cell? ⟨(b.add (k * 7)).block, (b.add (k * 7)).off + 5, none⟩ = some (.slice y3 y4 y5) ∧ W5.cell? ⟨(b.add (k * 7)).block, (b.add (k * 7)).off + 6, none⟩ = some (.slice y6 y7 y8)) := hide ⟨(hgrow5.cell_far (b.add (k * 7)) (Nat.lt_of_lt_of_le (unhide HYB).1 (unhide H4).1.size) (unhide HYB).2).trans ((unhide HS4).1), (hgrow5.cell_far ⟨(b.add (k * 7)).block, (b.add (k * 7)).off + 2, none⟩ (Nat.lt_of_lt_of_le (unhide HYB).1 (unhide H4).1.size) (unhide HYB).2).trans ((unhide HS4).2.1), (hgrow5.cell_far ⟨(b.add (k * 7)).block, (b.add (k * 7)).off + 3, none⟩ (Nat.lt_of_lt_of_le (unhide HYB).1 (unhide H4).1.size) (unhide HYB).2).trans ((unhide HS4).2.2.1), (hgrow5.cell_far ⟨(b.add (k * 7)).block, (b.add (k * 7)).off + 4, none⟩ (Nat.lt_of_lt_of_le (unhide HYB).1 (unhide H4).1.size) (unhide HYB).2).trans ((unhide HS4).2.2.2.1), (hgrow5.cell_far ⟨(b.add (k * 7)).block, (b.add (k * 7)).off + 5, none⟩ (Nat.lt_of_lt_of_le (unhide HYB).1 (unhide H4).1.size) (unhide HYB).2).trans ((unhide HS4).2.2.2.2.1), (hgrow5.cell_far ⟨(b.add (k * 7)).block, (b.add (k * 7)).off + 6, none⟩ (Nat.lt_of_lt_of_le (unhide HYB).1 (unhide H4).1.size) (unhide HYB).2).trans ((unhide HS4).2.2.2.2.2)⟩
                      have H5 := hide (And.intro hown5 (And.intro hgrow5 hat5))
                      refine hK.out _ _ (Or.inr (unhide HS5)) ?_
                      clear hK K hown5 hgrow5 hat5 hlt5 HS4
                      try simp only [Act.put, List.setIfInBounds_toArray, List.set_cons_zero, List.set_cons_succ]
                      refine till_one 15 (by kernel_rfl) rfl (fun K hK => ?_)
                      obtain ⟨b0, b1, b2, b3, b4, b5⟩ := unhide HS5
                      go_simp
                      refine hK.out _ _ (Or.inl (by first | rfl | trivial)) ?_
                      clear hK K b0 b1 b2 b3 b4 b5
                      try simp only [Act.put, List.setIfInBounds_toArray, List.set_cons_zero, List.set_cons_succ]
                      refine till_done (by kernel_rfl) ?_ _
                      have RR := hide (unhide HEND W4 W5 g5 cap5 (d0, d1, d2, d3, d4, d5, d6, d7, d8) (unhide H4).1 (unhide H4).2 (unhide H5).1 (unhide H5).2.1 (unhide H5).2.2)
                      clear HEND H4 H5 HOW HI HS5 at4 HYC HYB HCo
                      go_wp2_with fail
                      go_roundw
                      case rel => exact ⟨i, k + 1, _, _, _, rfl, by first | rfl | go_num, by go_num, hide ⟨by omega, by omega⟩, HST, RR⟩
                      case measure => simp [intOf]; omega
    · have j2 : ¬ (k : Int) < (m : Int) := by omega
      obtain rfl : k = m := by omega
      have HXI : Hid (RaI w wr es cs AP (.slice so q sc) q i k) := HX
      clear HX HX0
      go_wp2_with fail
      go_loopw [7, 8] (fun y x wv => ∃ (i : Nat) (so : Option Addr) (q sc : Nat), y = .slice so q sc ∧ x = .int .i64 (i : Int) ∧ Hid (i ≤ n ∧ k ≤ k) ∧ Hid (RaI w wv es cs AP (.slice so q sc) q i k)) (fun _ x _ => n - (intOf x).toNat)
      case atStart => exact ⟨i, so, q, sc, rfl, rfl, HI1, HXI⟩
      case round =>
        clear HI1 hi0 HXI
        obtain ⟨i, so, q, sc, rfl, rfl, HI1, HX⟩ := hrel
        have hi0 := (unhide HI1).1
        by_cases hin : i < n
        · obtain ⟨xk, xv, hx⟩ := xe i hin
          obtain ⟨a, x0, x1, x2, x3, x6, x4, x7, x5, x8, rfl, hab, _, hcx, hpx⟩ := (unhide HE).elem i _ hx
          dsimp only at hcx hpx
          have HXw : Hid (w.cell? (a.add (i * 6)) = some (.string xk) ∧ w.cell? ⟨(a.add (i * 6)).block, (a.add (i * 6)).off + 1, none⟩ = some (.int .i64 x0) ∧ w.cell? ⟨(a.add (i * 6)).block, (a.add (i * 6)).off + 2, none⟩ = some (.int .i64 x1) ∧ w.cell? ⟨(a.add (i * 6)).block, (a.add (i * 6)).off + 3, none⟩ = some (.string x2) ∧ w.cell? ⟨(a.add (i * 6)).block, (a.add (i * 6)).off + 4, none⟩ = some (.slice x3 x4 x5) ∧ w.cell? ⟨(a.add (i * 6)).block, (a.add (i * 6)).off + 5, none⟩ = some (.slice x6 x7 x8)) := hide ⟨hcx 0 _ rfl, hcx 1 _ rfl, hcx 2 _ rfl, hcx 3 _ rfl, hcx 4 _ rfl, hcx 5 _ rfl⟩
          have HVX : Hid (IsV w B xv (.agg #[.int .i64 x0, .int .i64 x1, .string x2, .slice x3 x4 x5, .slice x6 x7 x8])) := hide hpx
          have HXR : Hid (rightB xv = true) := hide (by have hent := unhide HRE _ (List.mem_of_getElem? hx); unfold entB at hent; simp only [Bool.and_eq_true, decide_eq_true_eq] at hent; exact hent.2)
          have HBa : Hid (a.block < B) := hide hab
          clear hcx hpx hab
          have j1 : (i : Int) < (n : Int) := by omega
          have HDF : Hid (apL (es.length + cs.length - (i + k)) (es.drop i) (cs.drop k) = (xk, xv) :: apL (es.length + cs.length - (i + 1 + k)) (es.drop (i + 1)) (cs.drop k)) := hide (by have h9 := ap_end (cs := cs) hx; rw [(unhide HN).2] at h9; rw [(unhide HN).2]; exact h9)
          clear hx
          obtain ⟨W, hWW⟩ : ∃ W, wr = W := ⟨_, rfl⟩
          have HWr : Hid (Below wr.heap.size wr W) := hide (by rw [← hWW]; exact Below.refl _ _)
          rw [hWW]
          clear hWW
          obtain ⟨xs, h2, hq, hqi, h3, h5⟩ := unhide HX
          have h2W := h2.later (unhide HWr)
          have hDb : Below w.heap.size w W := h5.trans ((unhide HWr).mono h5.size)
          have HYC : Hid (W.cell? (a.add (i * 6)) = some (.string xk) ∧ W.cell? ⟨(a.add (i * 6)).block, (a.add (i * 6)).off + 1, none⟩ = some (.int .i64 x0) ∧ W.cell? ⟨(a.add (i * 6)).block, (a.add (i * 6)).off + 2, none⟩ = some (.int .i64 x1) ∧ W.cell? ⟨(a.add (i * 6)).block, (a.add (i * 6)).off + 3, none⟩ = some (.string x2) ∧ W.cell? ⟨(a.add (i * 6)).block, (a.add (i * 6)).off + 4, none⟩ = some (.slice x3 x4 x5) ∧ W.cell? ⟨(a.add (i * 6)).block, (a.add (i * 6)).off + 5, none⟩ = some (.slice x6 x7 x8)) := hide ⟨cell_later hDb ((unhide HXw).1), cell_later hDb ((unhide HXw).2.1), cell_later hDb ((unhide HXw).2.2.1), cell_later hDb ((unhide HXw).2.2.2.1), cell_later hDb ((unhide HXw).2.2.2.2.1), cell_later hDb ((unhide HXw).2.2.2.2.2)⟩
          have HYB : Hid ((a.add (i * 6)).block < W.heap.size ∧ some (a.add (i * 6)).block ≠ (Value.slice so q sc).ownBlock) := hide ⟨by have := hDb.size; have := unhide HBB; have := unhide HBa; rw [block_add]; omega, fun e => by rw [block_add] at e; have := (h2.row.lt a.block e.symm).1; have := unhide HBB; have := unhide HBa; omega⟩
          have HCo : Hid (∀ u, Below W.heap.size W u → Calls Try.prog 27 #[.agg #[.int .i64 x0, .int .i64 x1, .string x2, .slice x3 x4 x5, .slice x6 x7 x8]] u fun e w' => ∃ d : Th5, e = .returned (.agg (th5 d).toArray) ∧ Below u.heap.size u w' ∧ IsQ w' (fun b => u.heap.size ≤ b ∧ b < w'.heap.size) xv (.agg (th5 d).toArray)) := hide (fun u hu => by
            have hwu := hDb.trans (hu.mono hDb.size)
            refine (copyD_any xv _ B u (IsV.mono (hwu.mono (unhide HBB)) (unhide HVX)) (Nat.le_trans (unhide HBB) hwu.size)).mono ?_
            rintro e w' ⟨x', rfl, bb, qq, -⟩
            have hq := qq (unhide HXR)
            obtain ⟨d, rfl⟩ := isP_th5 hq.1
            exact ⟨d, rfl, bb, hq⟩)
          obtain ⟨CS, hCS⟩ : ∃ CS, cellsN xs = CS := ⟨_, rfl⟩
          obtain ⟨lo, hlo⟩ : ∃ lo, w.heap.size = lo := ⟨_, rfl⟩
          have HOW : Hid (∀ u, Below W.heap.size W u → u.ownsRow lo 48 6 (.slice so q sc) q CS) := hide (fun u hu => by
            have := (h2W.later hu).row
            rw [hq, hCS, hlo] at this
            exact this)
          have hloW : lo ≤ W.heap.size := by have := hDb.size; omega
          obtain ⟨iv, hiv, hz0, hz1, hz2⟩ := info_parts infoEnN
          have HI := hide (And.intro hiv (And.intro hz0 (And.intro hz1 hz2)))
          have HEND : Hid (∀ (W4 W5 : World) (g5 cap5 : Nat) (c : Th5), Below W.heap.size W W4 → IsQ W4 (fun b => W.heap.size ≤ b ∧ b < W4.heap.size) xv (.agg (th5 c).toArray) → W5.ownsRow lo 48 6 (.slice (some ⟨g5, 0, none⟩) (q + 1) cap5) (q + 1) (CS ++ (.string xk :: th5 c)) → W4.grownBy W5 (Value.slice so q sc).ownBlock → ((Value.slice so q sc).ownBlock = some g5 ∨ g5 = W4.heap.size) → RaI w W5 es cs AP (.slice (some ⟨g5, 0, none⟩) (q + 1) cap5) (q + 1) (i + 1) k) := hide (by
            intro W4 W5 g5 cap5 c b4 q4 o5 g5' a5
            rw [← hlo, ← hCS] at o5
            have hpush := h2W.push (k := xk) (c := c) (y := xv) hq b4 hDb.size q4 o5 g5' a5
            refine ⟨_, hpush, by simp [hq], by omega, ?_, hDb.trans (((b4.mono hDb.size)).trans ?_)⟩
            · rw [List.map_append, List.append_assoc, ← h3, unhide HDF]
              rfl
            · exact (Below.refl _ _).grown g5' (by have := hDb.size; have := b4.size; omega) (fun b hb => (h2.row.lt b hb).1))
          have hq500 : q ≤ 384 := by have := unhide HI1; omega
          clear h2 h2W h3 h5 hDb hq hqi hCS hiv hz0 hz1 hz2 HX
          go_upto_region 22 with fail
          have HS0 : Hid (W.drew.cell? (a.add (i * 6)) = some (.string xk) ∧ W.drew.cell? ⟨(a.add (i * 6)).block, (a.add (i * 6)).off + 1, none⟩ = some (.int .i64 x0) ∧ W.drew.cell? ⟨(a.add (i * 6)).block, (a.add (i * 6)).off + 2, none⟩ = some (.int .i64 x1) ∧ W.drew.cell? ⟨(a.add (i * 6)).block, (a.add (i * 6)).off + 3, none⟩ = some (.string x2) ∧ W.drew.cell? ⟨(a.add (i * 6)).block, (a.add (i * 6)).off + 4, none⟩ = some (.slice x3 x4 x5) ∧ W.drew.cell? ⟨(a.add (i * 6)).block, (a.add (i * 6)).off + 5, none⟩ = some (.slice x6 x7 x8)) := hide (unhide HYC)
          refine till_begin (S := fun w' => w'.cell? (a.add (i * 6)) = some (.string xk) ∧ w'.cell? ⟨(a.add (i * 6)).block, (a.add (i * 6)).off + 1, none⟩ = some (.int .i64 x0) ∧ w'.cell? ⟨(a.add (i * 6)).block, (a.add (i * 6)).off + 2, none⟩ = some (.int .i64 x1) ∧ w'.cell? ⟨(a.add (i * 6)).block, (a.add (i * 6)).off + 3, none⟩ = some (.string x2) ∧ w'.cell? ⟨(a.add (i * 6)).block, (a.add (i * 6)).off + 4, none⟩ = some (.slice x3 x4 x5) ∧ w'.cell? ⟨(a.add (i * 6)).block, (a.add (i * 6)).off + 5, none⟩ = some (.slice x6 x7 x8)) 15 (by kernel_rfl) ?_
          refine till_take 0 (v := .slice so q sc) (some 129) rfl rfl rfl (by kernel_rfl) (by kernel_rfl) (by kernel_rfl) (by kernel_rfl) (fun _ _ _ h => h) (Or.inl ⟨by rfl, fun u hu => by obtain ⟨b0, b1, b2, b3, b4, b5⟩ := hu; go_simp⟩) (unhide HS0) ?_
          try simp only [Act.put, List.setIfInBounds_toArray, List.set_cons_zero, List.set_cons_succ]
          refine till_take 1 (v := .slice (some a) n cl) (some 130) rfl rfl rfl (by kernel_rfl) (by kernel_rfl) (by kernel_rfl) (by kernel_rfl) (fun _ _ _ h => h) (Or.inl ⟨by rfl, fun u hu => by obtain ⟨b0, b1, b2, b3, b4, b5⟩ := hu; go_simp⟩) (unhide HS0) ?_
          try simp only [Act.put, List.setIfInBounds_toArray, List.set_cons_zero, List.set_cons_succ]
          refine till_take 2 (v := .int .i64 (i : Int)) (some 131) rfl rfl rfl (by kernel_rfl) (by kernel_rfl) (by kernel_rfl) (by kernel_rfl) (fun _ _ _ h => h) (Or.inl ⟨by rfl, fun u hu => by obtain ⟨b0, b1, b2, b3, b4, b5⟩ := hu; go_simp⟩) (unhide HS0) ?_
          try simp only [Act.put, List.setIfInBounds_toArray, List.set_cons_zero, List.set_cons_succ]
          refine till_take 3 (v := .pointer (some (a.add (i * 6)))) (some 132) rfl rfl rfl (by kernel_rfl) (by kernel_rfl) (by kernel_rfl) (by kernel_rfl) (fun _ _ _ h => h) (Or.inl ⟨by rfl, fun u hu => by obtain ⟨b0, b1, b2, b3, b4, b5⟩ := hu; go_simp⟩) (unhide HS0) ?_
          try simp only [Act.put, List.setIfInBounds_toArray, List.set_cons_zero, List.set_cons_succ]
          refine till_take 4 (v := .pointer (some (a.add (i * 6)))) (some 133) rfl rfl rfl (by kernel_rfl) (by kernel_rfl) (by kernel_rfl) (by kernel_rfl) (fun _ _ _ h => h) (Or.inl ⟨by rfl, fun u hu => by obtain ⟨b0, b1, b2, b3, b4, b5⟩ := hu; go_simp⟩) (unhide HS0) ?_
          try simp only [Act.put, List.setIfInBounds_toArray, List.set_cons_zero, List.set_cons_succ]
          refine till_take 5 (v := .string xk) (some 134) rfl rfl rfl (by kernel_rfl) (by kernel_rfl) (by kernel_rfl) (by kernel_rfl) (fun _ _ _ h => h) (Or.inl ⟨by rfl, fun u hu => by obtain ⟨b0, b1, b2, b3, b4, b5⟩ := hu; go_simp⟩) (unhide HS0) ?_
          try simp only [Act.put, List.setIfInBounds_toArray, List.set_cons_zero, List.set_cons_succ]
          refine till_take 6 (v := .slice (some a) n cl) (some 135) rfl rfl rfl (by kernel_rfl) (by kernel_rfl) (by kernel_rfl) (by kernel_rfl) (fun _ _ _ h => h) (Or.inl ⟨by rfl, fun u hu => by obtain ⟨b0, b1, b2, b3, b4, b5⟩ := hu; go_simp⟩) (unhide HS0) ?_
          try simp only [Act.put, List.setIfInBounds_toArray, List.set_cons_zero, List.set_cons_succ]
          refine till_take 7 (v := .int .i64 (i : Int)) (some 136) rfl rfl rfl (by kernel_rfl) (by kernel_rfl) (by kernel_rfl) (by kernel_rfl) (fun _ _ _ h => h) (Or.inl ⟨by rfl, fun u hu => by obtain ⟨b0, b1, b2, b3, b4, b5⟩ := hu; go_simp⟩) (unhide HS0) ?_
          try simp only [Act.put, List.setIfInBounds_toArray, List.set_cons_zero, List.set_cons_succ]
          refine till_take 8 (v := .pointer (some (a.add (i * 6)))) (some 137) rfl rfl rfl (by kernel_rfl) (by kernel_rfl) (by kernel_rfl) (by kernel_rfl) (fun _ _ _ h => h) (Or.inl ⟨by rfl, fun u hu => by obtain ⟨b0, b1, b2, b3, b4, b5⟩ := hu; go_simp⟩) (unhide HS0) ?_
          try simp only [Act.put, List.setIfInBounds_toArray, List.set_cons_zero, List.set_cons_succ]
          refine till_take 9 (v := .pointer (some ⟨(a.add (i * 6)).block, (a.add (i * 6)).off + 1, none⟩)) (some 138) rfl rfl rfl (by kernel_rfl) (by kernel_rfl) (by kernel_rfl) (by kernel_rfl) (fun _ _ _ h => h) (Or.inl ⟨by rfl, fun u hu => by obtain ⟨b0, b1, b2, b3, b4, b5⟩ := hu; go_simp⟩) (unhide HS0) ?_
          try simp only [Act.put, List.setIfInBounds_toArray, List.set_cons_zero, List.set_cons_succ]
          refine till_take 10 (v := .agg #[.int .i64 x0, .int .i64 x1, .string x2, .slice x3 x4 x5, .slice x6 x7 x8]) (some 139) rfl rfl rfl (by kernel_rfl) (by kernel_rfl) (by kernel_rfl) (by kernel_rfl) (fun _ _ _ h => h) (Or.inl ⟨by rfl, fun u hu => by obtain ⟨b0, b1, b2, b3, b4, b5⟩ := hu; go_simp⟩) (unhide HS0) ?_
          try simp only [Act.put, List.setIfInBounds_toArray, List.set_cons_zero, List.set_cons_succ]
          refine till_one 11 (by kernel_rfl) rfl (fun K hK => ?_)
          go_simp
          refine (unhide HCo W.drew (below_drew_to3 (Below.refl _ _))).mono ?_
          rintro e W3 ⟨⟨d0, d1, d2, d3, d4, d5, d6, d7, d8⟩, rfl, b3, q3⟩
          dsimp only [th5] at q3 ⊢
          have X3 : Below W.heap.size W W3 := below_drew_of' b3
          have HS3 : Hid (W3.cell? (a.add (i * 6)) = some (.string xk) ∧ W3.cell? ⟨(a.add (i * 6)).block, (a.add (i * 6)).off + 1, none⟩ = some (.int .i64 x0) ∧ W3.cell? ⟨(a.add (i * 6)).block, (a.add (i * 6)).off + 2, none⟩ = some (.int .i64 x1) ∧ W3.cell? ⟨(a.add (i * 6)).block, (a.add (i * 6)).off + 3, none⟩ = some (.string x2) ∧ W3.cell? ⟨(a.add (i * 6)).block, (a.add (i * 6)).off + 4, none⟩ = some (.slice x3 x4 x5) ∧ W3.cell? ⟨(a.add (i * 6)).block, (a.add (i * 6)).off + 5, none⟩ = some (.slice x6 x7 x8)) := hide ⟨cell_later X3 ((unhide HS0).1), cell_later X3 ((unhide HS0).2.1), cell_later X3 ((unhide HS0).2.2.1), cell_later X3 ((unhide HS0).2.2.2.1), cell_later X3 ((unhide HS0).2.2.2.2.1), cell_later X3 ((unhide HS0).2.2.2.2.2)⟩
          have H3 : Hid (Below W.heap.size W W3 ∧ IsQ W3 (fun b => W.heap.size ≤ b ∧ b < W3.heap.size) xv (.agg #[.int .i64 d0, .int .i64 d1, .string d2, .slice d3 d4 d5, .slice d6 d7 d8])) := hide ⟨X3, q3⟩
          clear b3 q3 X3
          go_wp2_with fail
          refine hK.out _ _ (Or.inr (unhide HS3)) ?_
          clear hK K HS0
          try simp only [Act.put, List.setIfInBounds_toArray, List.set_cons_zero, List.set_cons_succ]
          refine till_one 12 (by kernel_rfl) rfl (fun K hK => ?_)
          obtain ⟨b0, b1, b2, b3, b4, b5⟩ := unhide HS3
          go_simp
          refine hK.out _ _ (Or.inr (unhide HS3)) ?_
          clear hK K b0 b1 b2 b3 b4 b5
          try simp only [Act.put, List.setIfInBounds_toArray, List.set_cons_zero, List.set_cons_succ]
          refine till_one 13 (by kernel_rfl) rfl (fun K hK => ?_)
          go_simp
          obtain ⟨W4, hW4⟩ : ∃ W4, W3.alloc (.cells #[.string xk, .int .i64 d0, .int .i64 d1, .string d2, .slice d3 d4 d5, .slice d6 d7 d8] 48) = W4 := ⟨_, rfl⟩
          have X4 : Below W3.heap.size W3 W4 := by rw [← hW4]; exact (Below.refl _ _).alloc (Nat.le_refl _) _
          have at4 : W4.heap[W3.heap.size]? = some (.cells #[.string xk, .int .i64 d0, .int .i64 d1, .string d2, .slice d3 d4 d5, .slice d6 d7 d8] 48 (0, 0)) := by rw [← hW4]; exact heap_alloc_new W3 _
          try rw [hW4]
          have HS4 : Hid (W4.cell? (a.add (i * 6)) = some (.string xk) ∧ W4.cell? ⟨(a.add (i * 6)).block, (a.add (i * 6)).off + 1, none⟩ = some (.int .i64 x0) ∧ W4.cell? ⟨(a.add (i * 6)).block, (a.add (i * 6)).off + 2, none⟩ = some (.int .i64 x1) ∧ W4.cell? ⟨(a.add (i * 6)).block, (a.add (i * 6)).off + 3, none⟩ = some (.string x2) ∧ W4.cell? ⟨(a.add (i * 6)).block, (a.add (i * 6)).off + 4, none⟩ = some (.slice x3 x4 x5) ∧ W4.cell? ⟨(a.add (i * 6)).block, (a.add (i * 6)).off + 5, none⟩ = some (.slice x6 x7 x8)) := hide ⟨cell_later X4 ((unhide HS3).1), cell_later X4 ((unhide HS3).2.1), cell_later X4 ((unhide HS3).2.2.1), cell_later X4 ((unhide HS3).2.2.2.1), cell_later X4 ((unhide HS3).2.2.2.2.1), cell_later X4 ((unhide HS3).2.2.2.2.2)⟩
          have H4 : Hid (Below W.heap.size W W4 ∧ IsQ W4 (fun b => W.heap.size ≤ b ∧ b < W4.heap.size) xv (.agg #[.int .i64 d0, .int .i64 d1, .string d2, .slice d3 d4 d5, .slice d6 d7 d8])) := hide ⟨(unhide H3).1.trans (X4.mono (unhide H3).1.size), ((unhide H3).2.move (fun b hb => X4.block b hb.2)).weak (fun b hb => ⟨hb.1, Nat.lt_of_lt_of_le hb.2 X4.size⟩)⟩
          obtain ⟨h3s, hh3s⟩ : ∃ h3s, W3.heap.size = h3s := ⟨_, rfl⟩
          rw [hh3s] at at4
          try rw [hh3s]
          refine hK.out _ _ (Or.inr (unhide HS4)) ?_
          clear hK K hW4 X4 hh3s HS3 H3
          try simp only [Act.put, List.setIfInBounds_toArray, List.set_cons_zero, List.set_cons_succ]
          refine till_one 14 (by kernel_rfl) rfl (fun K hK => ?_)
          refine step_append_lies _ (by rfl) _ _ 22 (by rfl) lo 48 iv (.agg #[.string ⟨#[]⟩, .int .i64 0, .int .i64 0, .string ⟨#[]⟩, .slice none 0 0, .slice none 0 0]) 6 96 Try.underlying22 (unhide HI).1 (unhide HI).2.1 (unhide HI).2.2.1 (unhide HI).2.2.2 rfl (by omega) (.slice so q sc) q CS (by rfl) (unhide HOW W4 (unhide H4).1) ⟨h3s, 0, none⟩ 1 1 [.string xk, .int .i64 d0, .int .i64 d1, .string d2, .slice d3 d4 d5, .slice d6 d7 d8] (by rfl) (by rfl) (World.news_of_block at4) (by simp [Value.oneCell']) (by omega) (by unfold maxLen; omega) (by omega) (Nat.le_trans hloW (unhide H4).1.size) _ rfl ?_
          intro g5 cap5 W5 hown5 hgrow5 hat5 hlt5
          change K (Act.put _ (some 143) _) W5
          have HS5 : Hid (W5.cell? (a.add (i * 6)) = some (.string xk) ∧ W5.cell? ⟨(a.add (i * 6)).block, (a.add (i * 6)).off + 1, none⟩ = some (.int .i64 x0) ∧ W5.cell? ⟨(a.add (i * 6)).block, (a.add (i * 6)).off + 2, none⟩ = some (.int .i64 x1) ∧ W5.cell? ⟨(a.add (i * 6)).block, (a.add (i * 6)).off + 3, none⟩ = some (.string x2) ∧ W5.cell? ⟨(a.add (i * 6)).block, (a.add (i * 6)).off + 4, none⟩ = some (.slice x3 x4 x5) ∧ W5.cell? ⟨(a.add (i * 6)).block, (a.add (i * 6)).off + 5, none⟩ = some (.slice x6 x7 x8)) := hide ⟨(hgrow5.cell_far (a.add (i * 6)) (Nat.lt_of_lt_of_le (unhide HYB).1 (unhide H4).1.size) (unhide HYB).2).trans ((unhide HS4).1), (hgrow5.cell_far ⟨(a.add (i * 6)).block, (a.add (i * 6)).off + 1, none⟩ (Nat.lt_of_lt_of_le (unhide HYB).1 (unhide H4).1.size) (unhide HYB).2).trans ((unhide HS4).2.1), (hgrow5.cell_far ⟨(a.add (i * 6)).block, (a.add (i * 6)).off + 2, none⟩ (Nat.lt_of_lt_of_le (unhide HYB).1 (unhide H4).1.size) (unhide HYB).2).trans ((unhide HS4).2.2.1), (hgrow5.cell_far ⟨(a.add (i * 6)).block, (a.add (i * 6)).off + 3, none⟩ (Nat.lt_of_lt_of_le (unhide HYB).1 (unhide H4).1.size) (unhide HYB).2).trans ((unhide HS4).2.2.2.1), (hgrow5.cell_far ⟨(a.add (i * 6)).block, (a.add (i * 6)).off + 4, none⟩ (Nat.lt_of_lt_of_le (unhide HYB).1 (unhide H4).1.size) (unhide HYB).2).trans ((unhide HS4).2.2.2.2.1), (hgrow5.cell_far ⟨(a.add (i * 6)).block, (a.add (i * 6)).off + 5, none⟩ (Nat.lt_of_lt_of_le (unhide HYB).1 (unhide H4).1.size) (unhide HYB).2).trans ((unhide HS4).2.2.2.2.2)⟩
          have H5 := hide (And.intro hown5 (And.intro hgrow5 hat5))
          refine hK.out _ _ (Or.inr (unhide HS5)) ?_
          clear hK K hown5 hgrow5 hat5 hlt5 HS4
          try simp only [Act.put, List.setIfInBounds_toArray, List.set_cons_zero, List.set_cons_succ]
          refine till_one 15 (by kernel_rfl) rfl (fun K hK => ?_)
          obtain ⟨b0, b1, b2, b3, b4, b5⟩ := unhide HS5
          go_simp
          refine hK.out _ _ (Or.inl (by first | rfl | trivial)) ?_
          clear hK K b0 b1 b2 b3 b4 b5
          try simp only [Act.put, List.setIfInBounds_toArray, List.set_cons_zero, List.set_cons_succ]
          refine till_done (by kernel_rfl) ?_ _
          have RR := hide (unhide HEND W4 W5 g5 cap5 (d0, d1, d2, d3, d4, d5, d6, d7, d8) (unhide H4).1 (unhide H4).2 (unhide H5).1 (unhide H5).2.1 (unhide H5).2.2)
          clear HEND H4 H5 HOW HI HS5 at4 HYC HYB HCo
          go_wp2_with fail
          go_roundw
          case rel => exact ⟨i + 1, _, _, _, rfl, by go_num, hide ⟨by omega, (unhide HI1).2⟩, RR⟩
          case measure => simp [intOf]; omega
        · have j1 : ¬ (i : Int) < (n : Int) := by omega
          obtain ⟨xs, h2, hq, hqi, h3, h5⟩ := unhide HX
          have hAP : xs.map enOf = AP := by rw [← h3, List.drop_eq_nil_of_le (by have := unhide HN; omega), List.drop_eq_nil_of_le (by have := unhide HN; omega), (ap_nil _).1, List.append_nil]
          obtain ⟨x9, c9, hx9, hE9⟩ := h2.isE (fun p hp => unhide HKY (enOf p) (by rw [← hAP]; exact List.mem_map_of_mem hp)) (by have := unhide HI1; omega)
          rw [hAP] at hE9
          rw [hq] at hx9
          cases hx9
          have hl9 : AP.length = q := by rw [← hAP, List.length_map, hq]
          have CR := hide (rightRs_any AP so q sc wr.heap.size wr hl9 hE9 (Nat.le_refl _))
          obtain ⟨ra, hra⟩ : ∃ ra, rightE AP = ra := ⟨_, rfl⟩
          rw [hra] at CR
          have HFC : Hid (cd = (if ra then 0 else 73) ∧ AL = (if ra then AP else [])) := hide (by have h1 := unhide HCF ?_; rw [hra] at h1; exact h1; have h4 := (unhide HST0).2; have h6 := (unhide HST0).1; rw [List.take_of_length_le (by have := unhide HN; omega)] at h4; rw [List.take_of_length_le (by have := unhide HN; simp [keysH]; omega)] at h6; exact ⟨h6, h4⟩)
          have H9 := hide (And.intro h2 (And.intro hAP h5))
          clear h2 hq hqi h3 h5 hAP hE9 hl9 hra HX hin hi0
          go_wp2_with fail
          refine (unhide CR).mono ?_
          rintro e u3 ⟨rfl, b3⟩
          have H8 : Hid (EnN u3 w.heap.size (.slice so q sc) xs ∧ xs.map enOf = AP ∧ Below w.heap.size w u3) := hide ⟨(unhide H9).1.later b3, (unhide H9).2.1, (unhide H9).2.2.trans (b3.mono (unhide H9).2.2.size)⟩
          clear b3 CR H9
          cases ra with
          | true =>
            go_wp2_with fail
            go_ret2
            first
              | exact ⟨_, xs, by rw [(unhide HFC).1]; rfl, (unhide H8).1, by rw [(unhide HFC).2]; exact (unhide H8).2.1, (unhide H8).2.2⟩
              | exact ⟨_, by rw [(unhide HFC).1]; rfl, xs, (unhide H8).1, by rw [(unhide HFC).2]; exact (unhide H8).2.1, (unhide H8).2.2⟩
          | false =>
            go_wp2_with fail
            go_ret2
            first
              | exact ⟨_, [], by rw [(unhide HFC).1]; rfl, EnN.nil _ _, by rw [(unhide HFC).2]; rfl, (unhide H8).2.2⟩
              | exact ⟨_, by rw [(unhide HFC).1]; rfl, [], EnN.nil _ _, by rw [(unhide HFC).2]; rfl, (unhide H8).2.2⟩
end Go.Proofs.Ytlmgiimgmjbkeaa
