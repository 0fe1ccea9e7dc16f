/-
  The walk of LexAhead where there are tokens; conditions: what the variables of strconv hold.
-/
import Derived.Test.YtnflbgejjgjpcaaDoorLxAh
namespace Go.Proofs.YtnflbgejjgjpcaaDoor
open Go.RowKit
set_option linter.unusedVariables false
set_option linter.unusedSimpArgs false

theorem keepT {v w1 w2 : World} {P : World → Prop} (H : Hid (∀ w', Below v.heap.size v w' → P w')) (h : Below v.heap.size v w1) (hb : ∃ q, w2 = w1.drewN q) : Below v.heap.size v w2 ∧ P w2 := by
  obtain ⟨q, rfl⟩ := hb
  have : Below v.heap.size v (w1.drewN q) := h.trans ((below_drewN' q w1).mono h.size)
  exact ⟨this, unhide H _ this⟩

set_option maxRecDepth 100000 in
set_option maxHeartbeats 4000000 in
theorem ahead_ok (s : ByteArray) (w : World) (he : Ev w) (hw6 : 5 < w.heap.size) (ts : List Tk) (hE : allT s.data.toList = .ok ts) :
    Calls Tryd.prog 6 #[.string s] w fun e w' => e = .returned (.bool true) ∧ Below w.heap.size w w' := by
  have hs : s.size ≤ 8192 := all_small hE
  obtain ⟨⟨us, hus⟩, hall, hrise⟩ := all_ok hE
  have hl := (all_again hE).2.1
  obtain ⟨N, hN⟩ : ∃ N, us.length = N := ⟨_, rfl⟩
  have htl : ts.length = N + 1 := by rw [hus, List.length_append, hN]; rfl
  have hlast : ts[N]? = some (endT s.size) := by rw [hus, List.getElem?_append_right (by omega), hN, Nat.sub_self]; rfl
  have CA := hide (all_toks s ts w he hw6 hE N htl)
  have CS := hide (fun u (hu : Below w.heap.size w u) => shown_any u (he.below hu hw6) (Nat.lt_of_lt_of_le hw6 hu.size))
  have HALL := hide hall
  have HRI := hide hrise
  have HT := hide (And.intro htl hlast)
  have HEV : Hid (∀ u, Below w.heap.size w u → Ev u ∧ 5 < u.heap.size) := hide (fun u hu => ⟨he.below hu hw6, Nat.lt_of_lt_of_le hw6 hu.size⟩)
  have hN2 : N ≤ 8192 := by omega
  have hs2 : (s.size : Int) ≤ 8192 := by omega
  have nq := neq_tok 0 0 (s.size : Int) 0 0 (s.size : Int) ⟨#[]⟩ ⟨#[]⟩ true ⟨fun _ => ⟨rfl, rfl, rfl, rfl⟩, fun _ => rfl⟩
  have ng := fun (p : Int) (w : World) (x y : Operand) => run_eqGuard_agg (P := Tryd.prog) w .neq 29 x y #[.int .i64 0, .string ⟨#[]⟩, .int .i64 0, .int .i64 p] #[.int .i64 0, .string ⟨#[]⟩, .int .i64 0, .int .i64 p] guard_tok
  clear he hE hall hrise hus hlast htl hN hl
  go_enter Tryd.func6, Tryd.ntmps6
  go_wp2_with fail
  refine (unhide CA).mono ?_
  rintro e uA ⟨b, c, rfl, hc, hbb, hcm, HK⟩
  have B1 := hide (unhide HK).2.2
  go_wp2_with fail
  refine ((unhide CS) uA (unhide B1)).mono ?_
  rintro e uB ⟨rfl, b2⟩
  have B2 : Hid (Below w.heap.size w uB) := hide ((unhide B1).trans (b2.mono (unhide B1).size))
  have HR2 : Hid (TR uB (some ⟨b, 0, none⟩) ts) := hide ((unhide HK).2.1.later b2)
  clear b2 HK CA CS
  obtain ⟨hbl, x0, x1, x2, x3⟩ := (unhide HR2).at (unhide HT).2
  simp only [endT, bA_nil] at x0 x1 x2 x3
  obtain ⟨o, ho⟩ : ∃ o, N * 4 = o := ⟨_, rfl⟩
  have r1 := add_row b (N * 4)
  rw [ho] at r1 x0 x1 x2 x3
  have n1 : ((N : Int) + 1 == 0) = false := beq_eq_false_iff_ne.2 (by omega)
  have n2 : ¬ (N : Int) + 1 = 0 := by omega
  have n3 : (N : Int) < (N : Int) + 1 := by omega
  have hci : (N : Int) + 1 ≤ (c : Int) := by omega
  go_wp2_with fail
  clear x0 x1 x2 x3 r1 ho hbl n1 n2 n3 nq
  go_loopw [10] (fun x wr => ∃ i : Nat, x = .int .i64 (i : Int) ∧ i ≤ N + 1 ∧ Hid (∃ q, wr = uB.drewN q)) (fun x _ => N + 1 - (intOf x).toNat)
  case atStart => exact ⟨0, rfl, by omega, hide ⟨0, rfl⟩⟩
  case round =>
    obtain ⟨i, rfl, hi, HX⟩ := hrel
    obtain ⟨q, hq⟩ := unhide HX
    have HQ := hide hq
    have hbl : Below uB.heap.size uB wr := by rw [hq]; exact below_drewN' q uB
    by_cases hlt : i < N + 1
    · have j1 : (i : Int) < (N : Int) + 1 := by omega
      obtain ⟨t, ht⟩ : ∃ v, ts[i]? = some v := ⟨_, List.getElem?_eq_getElem (by have := (unhide HT).1; omega)⟩
      have hTR := (unhide HR2).later hbl
      obtain ⟨hb1, _, _, _, x3⟩ := hTR.at ht
      have htp := (unhide HALL i t ht).1
      rw [len_list] at htp
      obtain ⟨tp, htpe⟩ : ∃ p, t.p = p := ⟨_, rfl⟩
      rw [htpe] at x3 htp
      have p1 : ¬ (tp : Int) < 0 := by omega
      have p2 : ¬ (s.size : Int) < (tp : Int) := by omega
      obtain ⟨o, ho⟩ : ∃ o, i * 4 = o := ⟨_, rfl⟩
      have r1 := add_row b (i * 4)
      rw [ho] at r1 x3
      have HNX : Hid (∀ z, ∃ q', wr.drewN z = uB.drewN q') := hide (fun z => ⟨q + z, by rw [unhide HQ, drewN_add]⟩)
      have HLT := hide hlt
      by_cases hi0 : i = 0
      · have g1 : ¬ (0 : Int) < (i : Int) := by omega
        have g2 : ¬ 0 < i := by omega
        have g3 : decide (0 < i) = false := decide_eq_false g2
        have g4 : decide ((0 : Int) < (i : Int)) = false := decide_eq_false g1
        clear hbl hq ht htpe hTR hlt hi0 hi
        go_upto_region 17 with fail
        go_quiet (fail)
        go_wp2_with fail
        go_roundw
        case rel => exact ⟨i + 1, by go_num, unhide HLT, hide (unhide HNX _)⟩
        case measure => have := unhide HLT; simp [intOf]; omega
      · obtain ⟨j, hj⟩ : ∃ j, i = j + 1 := ⟨i - 1, by omega⟩
        obtain ⟨tj, hu⟩ : ∃ v, ts[j]? = some v := ⟨_, List.getElem?_eq_getElem (by have := (unhide HT).1; omega)⟩
        obtain ⟨_, _, _, _, y3⟩ := hTR.at hu
        have hlo := unhide HRI j tj t hu (by rw [← hj]; exact ht)
        obtain ⟨up, hupe⟩ : ∃ p, tj.p = p := ⟨_, rfl⟩
        rw [hupe] at y3 hlo
        rw [htpe] at hlo
        have v1 : ¬ (tp : Int) < (up : Int) := by omega
        have v2 : ((tp : Int) == (up : Int)) = false := beq_eq_false_iff_ne.2 (by omega)
        have v3 : ¬ (tp : Int) = (up : Int) := by omega
        obtain ⟨o2, ho2⟩ : ∃ o, j * 4 = o := ⟨_, rfl⟩
        have r2 := add_row b (j * 4)
        rw [ho2] at r2 y3
        have g1 : (0 : Int) < (i : Int) := by omega
        have g2 : 0 < i := by omega
        have g3 : decide (0 < i) = true := decide_eq_true g2
        have g4 : decide ((0 : Int) < (i : Int)) = true := decide_eq_true g1
        have hjm : (i : Int) - 1 = (j : Int) := by omega
        have hjw : IntKind.i64.wrap ((i : Int) - 1) = (j : Int) := by rw [IntKind.wrap_i64]; omega
        have hiw : IntKind.i64.wrap ((i : Int) + 1) = (i : Int) + 1 := by rw [IntKind.wrap_i64]; omega
        have hjlt : (j : Int) < (N : Int) + 1 := by omega
        have HJ := hide hj
        clear hbl hq ht htpe hTR hlt hi0 hi hu hupe hj hlo
        by_cases hlast : i + 1 < N + 1
        all_goals
          first
          | (have l1 : (i : Int) + 1 < (N : Int) + 1 := by omega)
          | (have l1 : ¬ (i : Int) + 1 < (N : Int) + 1 := by omega)
          clear hlast
          go_upto_region 17 with fail
          go_quiet (fail)
          go_wp2_with fail
          go_roundw
          case rel => exact ⟨i + 1, by go_num, unhide HLT, hide (unhide HNX _)⟩
          case measure => have := unhide HLT; simp [intOf]; omega
    · have j1 : ¬ (i : Int) < (N : Int) + 1 := by omega
      have HU2 : Hid (TR wr (some ⟨b, 0, none⟩) ts ∧ Below w.heap.size w wr) := hide ⟨(unhide HR2).later hbl, (unhide B2).trans (hbl.mono (unhide B2).size)⟩
      clear hbl hq HQ HX HR2 B2 hi
      obtain ⟨st, hst⟩ : ∃ st : Nat, 1 + ((N : Int) + 1) / 40 = (st : Int) := ⟨(1 + ((N : Int) + 1) / 40).toNat, by omega⟩
      have hst1 : 1 ≤ st ∧ st ≤ 300 := by omega
      have HST := hide hst1
      have CSM : Hid (∀ (m b2 c2 : Nat) (u : World), m ≤ N → m ≤ c2 → TR u (some ⟨b2, 0, none⟩) (ts.take m) → TR u (some ⟨b, 0, none⟩) ts → Calls Tryd.prog 9 #[.slice (some ⟨b2, 0, none⟩) m c2, .slice (some ⟨b, 0, none⟩) m c] u fun e w' => e = .returned (.bool true) ∧ ∃ q, w' = u.drewN q) := hide (fun m b2 c2 u h1 h2 h3 h4 => by
        have hl : (ts.take m).length = m := by rw [List.length_take]; have := (unhide HT).1; omega
        refine (same_any (ts.take m) (ts.take m) (some ⟨b2, 0, none⟩) (some ⟨b, 0, none⟩) m m c2 c u hl hl (by omega) (by omega) h2 (by omega) h3 (h4.take m)).mono ?_
        rintro e w' ⟨r, rfl, hr, hq⟩
        exact ⟨by rw [hr.2 rfl], hq⟩)
      have CAK : Hid (∀ (m : Nat) (t : Tk) (u : World), ts[m]? = some t → Below w.heap.size w u → _) := hide (fun (m : Nat) (t : Tk) (u : World) (h1 : ts[m]? = some t) (hu : Below w.heap.size w u) => all_toks (s.extract 0 t.p) (ts.take m ++ [endT t.p]) u (unhide HEV u hu).1 (unhide HEV u hu).2 (by rw [ext_take, bA_data]; exact (unhide HALL m t h1).2) m (by rw [List.length_append, List.length_take]; have h2 := (List.getElem?_eq_some_iff.1 h1).1; simp; omega))
      go_wp2_with fail
      go_loopw [12] (fun x wq => ∃ k : Nat, x = .int .i64 (k : Int) ∧ k ≤ 20000 ∧ Hid (TR wq (some ⟨b, 0, none⟩) ts ∧ Below w.heap.size w wq)) (fun x _ => N + 1 - (intOf x).toNat)
      case atStart => exact ⟨0, rfl, by omega, HU2⟩
      case round =>
        clear HU2
        obtain ⟨k, rfl, hk, HX⟩ := hrel
        by_cases hlt : k < N + 1
        · have j2 : (k : Int) < (N : Int) + 1 := by omega
          obtain ⟨t, ht⟩ : ∃ v, ts[k]? = some v := ⟨_, List.getElem?_eq_getElem (by have := (unhide HT).1; omega)⟩
          obtain ⟨hb1, _, _, _, x3⟩ := (unhide HX).1.at ht
          have htp := (unhide HALL k t ht).1
          rw [len_list] at htp
          have CK := hide (unhide CAK k t wr ht (unhide HX).2)
          obtain ⟨tp, htpe⟩ : ∃ p, t.p = p := ⟨_, rfl⟩
          rw [htpe] at x3 htp CK
          have p1 : (tp : Int) ≤ (s.size : Int) := by omega
          obtain ⟨o, ho⟩ : ∃ o, k * 4 = o := ⟨_, rfl⟩
          have r1 := add_row b (k * 4)
          rw [ho] at r1 x3
          have HTK := hide (And.intro ht htpe)
          have HO := hide ho
          have HLT := hide hlt
          clear ht htpe hlt
          go_wp2_with fail
          refine (unhide CK).mono ?_
          rintro e u4 ⟨b4, c4, rfl, hc4, hbb4, hcm4, HK4⟩
          have HU4 : Hid (TR u4 (some ⟨b, 0, none⟩) ts ∧ Below w.heap.size w u4) := hide ⟨(unhide HX).1.later (unhide HK4).2.2, (unhide HX).2.trans ((unhide HK4).2.2.mono (unhide HX).2.size)⟩
          have hk4 : (ts.take k ++ [endT tp])[k]? = some (endT tp) := by
            have hl : (ts.take k).length = k := by rw [List.length_take]; have := (unhide HT).1; have := unhide HLT; omega
            rw [List.getElem?_append_right (by omega), hl, Nat.sub_self]
            rfl
          obtain ⟨hb4, y0, y1, y2, y3⟩ := (unhide HK4).2.1.at hk4
          simp only [endT, bA_nil] at y0 y1 y2 y3
          have r4 := add_row b4 (k * 4)
          rw [unhide HO] at r4 y0 y1 y2 y3
          have hTK4 : TR u4 (some ⟨b4, 0, none⟩) (ts.take k) := by
            have h1 := (unhide HK4).2.1.take k
            rwa [List.take_append_of_le_length (by rw [List.length_take]; have := (unhide HT).1; have := unhide HLT; omega), List.take_take, Nat.min_self] at h1
          have hx4 : u4.cell? ⟨b, o + 3, none⟩ = some (.int .i64 (tp : Int)) := cell_later (unhide HK4).2.2 x3
          have hb5 : b < u4.heap.size := Nat.lt_of_lt_of_le hb1 (unhide HK4).2.2.size
          have CM : Hid (∀ u, Below u4.heap.size u4 u → Calls Tryd.prog 9 #[.slice (some ⟨b4, 0, none⟩) k c4, .slice (some ⟨b, 0, none⟩) k c] u fun e w' => e = .returned (.bool true) ∧ ∃ q, w' = u.drewN q) := hide (fun u hu => unhide CSM k b4 c4 u (by have := unhide HLT; omega) (by omega) (hTK4.later hu) ((unhide HU4).1.later hu))
          have HKK : Hid (∀ w', Below u4.heap.size u4 w' → w'.cell? ⟨b4, o, none⟩ = some (.int .i64 0) ∧ w'.cell? ⟨b4, o + 1, none⟩ = some (.string ⟨#[]⟩) ∧ w'.cell? ⟨b4, o + 2, none⟩ = some (.int .i64 0) ∧ w'.cell? ⟨b4, o + 3, none⟩ = some (.int .i64 (tp : Int)) ∧ w'.cell? ⟨b, o + 3, none⟩ = some (.int .i64 (tp : Int)) ∧ b4 < w'.heap.size ∧ b < w'.heap.size) := hide (fun w' hw' => ⟨cell_later hw' y0, cell_later hw' y1, cell_later hw' y2, cell_later hw' y3, cell_later hw' hx4, Nat.lt_of_lt_of_le hb4 hw'.size, Nat.lt_of_lt_of_le hb5 hw'.size⟩)
          have nq := neq_tok 0 0 (tp : Int) 0 0 (tp : Int) ⟨#[]⟩ ⟨#[]⟩ true ⟨fun _ => ⟨rfl, rfl, rfl, rfl⟩, fun _ => rfl⟩
          have hiw : IntKind.i64.wrap ((k : Int) + 1) = (k : Int) + 1 := by rw [IntKind.wrap_i64]; omega
          have d1 : (k : Int) < (k : Int) + 1 := by omega
          have d2 : (k : Int) ≤ (c4 : Int) := by omega
          have d3 : (k : Int) ≤ (c : Int) := by omega
          have d4 : (0 : Int) ≤ (k : Int) := by omega
          have d5 : k ≤ c4 := by omega
          have d6 : k ≤ c := by have := unhide HLT; omega
          clear hTK4 hk4 CK x3
          go_upto_region 24 with fail
          go_cut [217] from 163 to 217 (fun r wx => r = .bool false ∧ Hid (Below u4.heap.size u4 wx))
          case first =>
            go_region_held3 (fun w' => Below u4.heap.size u4 w' ∧ w'.cell? ⟨b4, o, none⟩ = some (.int .i64 0) ∧ w'.cell? ⟨b4, o + 1, none⟩ = some (.string ⟨#[]⟩) ∧ w'.cell? ⟨b4, o + 2, none⟩ = some (.int .i64 0) ∧ w'.cell? ⟨b4, o + 3, none⟩ = some (.int .i64 (tp : Int)) ∧ w'.cell? ⟨b, o + 3, none⟩ = some (.int .i64 (tp : Int)) ∧ b4 < w'.heap.size ∧ b < w'.heap.size)
              (first | assumption | exact ⟨(Below.refl _ _).drew, unhide HKK _ (Below.refl _ _).drew⟩ | (refine keepT HKK (And.left (by assumption)) (by assumption); done) | (refine keepT HKK ?_ ?_ <;> assumption))
              (first | (go_at_call 9; refine ((unhide CM) _ (And.left (by assumption))).mono ?_; rintro e w5 ⟨rfl, b5⟩))
            have hbb5 : Below u4.heap.size u4 w5 := And.left (by assumption)
            have HX5 := hide hbb5
            clear b5 hbb5
            go_wp2_with fail
            go_meet
            exact ⟨rfl, HX5⟩
          case rest =>
            obtain ⟨rfl, HX5⟩ := hcut
            have HU6 : Hid (TR wc (some ⟨b, 0, none⟩) ts ∧ Below w.heap.size w wc) := hide (by first | exact ⟨(unhide HU4).1.later (unhide HX5), (unhide HU4).2.trans ((unhide HX5).mono (unhide HU4).2.size)⟩)
            go_wp2_with fail
            go_roundw
            case rel => exact ⟨k + st, by go_num, by have := unhide HST; have := unhide HLT; omega, HU6⟩
            case measure => have := unhide HST; have := unhide HLT; simp [intOf]; omega
        · have j2 : ¬ (k : Int) < (N : Int) + 1 := by omega
          have HBB := hide (unhide HX).2
          go_wp2_with fail
          go_ret
          exact ⟨rfl, unhide HBB⟩

/-- whatever the source -/
theorem ahead_walk (s : ByteArray) (w : World) (he : Ev w) (hw6 : 5 < w.heap.size) :
    Calls Tryd.prog 6 #[.string s] w fun e w' => e = .returned (.bool true) ∧ Below w.heap.size w w' := by
  cases hE : allT s.data.toList with
  | ok ts => exact ahead_ok s w he hw6 ts hE
  | error x =>
    obtain ⟨q, er⟩ := x
    rcases all_err hE with ⟨_, _, h3⟩ | ⟨h1, h2, h3, h4, ts, h5⟩
    · exact ahead_long s w he hw6 (by rw [← len_list]; exact h3)
    · exact ahead_fault s w he hw6 q er hE h1 h2 (by rw [← len_list]; exact h3) (by rw [← len_list]; exact h4) ts h5
end Go.Proofs.YtnflbgejjgjpcaaDoor
