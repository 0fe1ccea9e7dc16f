/-
  The walk of Lent of a whole value: a right one in lists of its own, with marks behind; one that is not right as it is; no conditions.
-/
import Derived.Test.YtlmgiimgmjbkeaaA24
import Derived.Test.YtlmgiimgmjbkeaaA21
set_option linter.unusedVariables false
set_option linter.unusedSimpArgs false
namespace Go.Proofs.Ytlmgiimgmjbkeaa
open Go.RowKit
set_option linter.unusedVariables false
set_option linter.unusedSimpArgs false

/-- three variables -/
structure Four (w w3 : World) (g : Nat) (x y : Array Value) : Prop where
  at0 : w3.heap[g]? = some (.cells x 34 (0, 0))
  at1 : w3.heap[g + 1]? = some (.cells y 34 (0, 0))
  at2 : w3.heap[g + 1 + 1]? = some (.cells x 34 (0, 0))
  below : Below g w w3

theorem wt_of_right {v : Vl} (h : rightB v = true) : wt v ≤ 2048 := by
  unfold rightB at h
  simp at h
  exact h.2

theorem dep_of_ok : ∀ (b : Nat) (v : Vl), okB b v = true → dep v ≤ b := by
  intro b
  induction b with
  | zero => intro v h; simp [okB] at h
  | succ b ih =>
    intro v h
    cases v with
    | mk k n s l ks =>
      simp only [okB, Bool.and_eq_true] at h
      have hl : ∀ (l : List Vl), okL b l = true → depL l ≤ b := by
        intro l
        induction l with
        | nil => intro _; simp [depL]
        | cons y r ihr =>
          intro hh
          rw [okL_cons, Bool.and_eq_true] at hh
          rw [depL_cons]
          have := ih y hh.1
          have := ihr hh.2
          omega
      have := hl l h.2
      simp only [dep]
      omega

theorem dep_of_right {v : Vl} (h : rightB v = true) : dep v ≤ 8 := by
  unfold rightB at h
  simp at h
  exact dep_of_ok 8 v h.1

set_option maxRecDepth 100000 in
set_option maxHeartbeats 1000000 in
theorem lent_yes (v : Vl) (x : Value) (B : Nat) (w : World) (hR : rightB v = true) (hv : IsV w B v x) (hBs : B ≤ w.heap.size) :
    Calls Try.prog 13 #[x, .int .i64 0] w fun e w' => ∃ x', e = .returned x' ∧ Ln w' (fun b => w.heap.size ≤ b ∧ b < w'.heap.size) v x' ∧ Below w.heap.size w w' := by
  obtain ⟨k, n, s, l, ks, al, ak, cl, ck, rfl, rfl⟩ := hv.shape
  obtain ⟨m, hm⟩ : ∃ m, ks.length = m := ⟨_, rfl⟩
  obtain ⟨ln, hln⟩ : ∃ ln, l.length = ln := ⟨_, rfl⟩
  have hw := (wt_of_right hR)
  have hlw : l.length ≤ wtL l := Nat.le_trans (len_cntL l) (cntL_wt l)
  have hkw := keys_len ks
  simp only [wt] at hw
  have b1 : ln ≤ 2048 := by omega
  have b2 : m ≤ 2048 := by omega
  obtain ⟨d, hd⟩ : ∃ d, depL l = d := ⟨_, rfl⟩
  have hd9 : d ≤ 1000 := by have := dep_of_right hR; simp only [dep] at this; omega
  have hel : ∀ i y, l[i]? = some y → dep y ≤ d ∧ wt y ≤ 2048 := fun i y hy => by
    have h1 := dep_elem l i y hy
    have h2 := wt_le_wtL l i y hy
    exact ⟨by omega, by omega⟩
  have HEL := hide hel
  rw [hm, hln] at hv ⊢
  obtain ⟨g, hg⟩ : ∃ g, w.heap.size = g := ⟨_, rfl⟩
  have T3 := Three.mk' w g hg #[.int .i64 k, .int .i64 n, .string s, .slice al ln cl, .slice ak m ck] #[.int .i64 0, .int .i64 0, .string ⟨#[]⟩, .slice none 0 0, .slice none 0 0] #[.int .i64 k, .int .i64 n, .string s, .slice al ln cl, .slice ak m ck]
  have HV := hide hv
  have HL := hide (And.intro hm hln)
  obtain ⟨iv, hiv, hz0, hz1, hz2⟩ := info_parts infoLV
  obtain ⟨is, his, hy0, hy1, hy2⟩ := info_parts infoLS
  clear hel hm hln hlw hkw hw hd
  have e1 : IntKind.i64.wrap ((ln : Int) + 4) = (ln : Int) + 4 := by rw [IntKind.wrap_i64]; omega
  have e2 : IntKind.i64.wrap ((m : Int) + 4) = (m : Int) + 4 := by rw [IntKind.wrap_i64]; omega
  go_enter Try.func13, Try.ntmps13
  obtain ⟨w0, hw0⟩ : ∃ w0, ((w.alloc (.cells #[.int .i64 k, .int .i64 n, .string s, .slice al ln cl, .slice ak m ck] 34)).alloc (.cells #[.int .i64 0, .int .i64 0, .string ⟨#[]⟩, .slice none 0 0, .slice none 0 0] 34)).alloc (.cells #[.int .i64 k, .int .i64 n, .string s, .slice al ln cl, .slice ak m ck] 34) = w0 := ⟨_, rfl⟩
  rw [hw0] at T3
  have CR := hide (right_ref (.mk k n s l ks) _ B w0 (IsV.mono (T3.below.mono (by omega)) hv) (by have := T3.size; omega))
  rw [hR] at CR
  go_upto_region 2 with fail
  obtain ⟨a0, a1, a2, a3, a4⟩ := row_cell T3.at0
  have H0 := hide T3
  clear T3 hw0 hv
  go_wp2_with fail
  refine (unhide CR).mono ?_
  rintro e w3 ⟨rfl, b3⟩
  have zz := (unhide H0).size
  have z3 : g + 3 ≤ w3.heap.size := by have := b3.size; omega
  have H3 : Hid (Four w w3 g #[.int .i64 k, .int .i64 n, .string s, .slice al ln cl, .slice ak m ck] #[.int .i64 0, .int .i64 0, .string ⟨#[]⟩, .slice none 0 0, .slice none 0 0]) := hide ⟨(b3.block g (by omega)).trans (unhide H0).at0, (b3.block (g + 1) (by omega)).trans (unhide H0).at1, (b3.block (g + 1 + 1) (by omega)).trans (unhide H0).at2, (unhide H0).below.trans (b3.mono (by omega))⟩
  obtain ⟨c0, c1, c2, c3, c4⟩ := row_cell (unhide H3).at0
  clear b3 zz H0 CR a0 a1 a2 a3 a4
  have tokA : True := trivial
  go_upto_region 6 with (first | (have _t := tokA; at_make; refine wpList_make_full _ rfl _ _ 31 rfl w3.heap.size 34 iv _ 5 Try.underlying31 hiv hz0 hz1 _ _ _ _ (ln + 4) rfl rfl (by omega) (by omega) (by rw [hz2]; omega) (by unfold maxLen; omega) (Nat.le_refl _) ?_; intro w4 own4 gr4; clear tokA))
  have LR0 : LRow w3 w4 w3.heap.size 0 (ln + 4) l (fun _ => []) (madeCells (.agg #[.int .i64 0, .int .i64 0, .string ⟨#[]⟩, .slice none 0 0, .slice none 0 0] : Value).cells ((ln + 4) * 5)).toList := by
    refine ⟨own_all own4, by rw [Array.length_toList, size_madeCells, Nat.sub_zero], (fun j hj => by omega), (fun j _ hj => by omega), (fun j y _ hj => by omega), (Below.refl _ _).grown gr4 (Nat.le_refl _) (by simp), ?_⟩
    exact lt_of_row (own_all own4)
  obtain ⟨bl, hbl⟩ : ∃ bl, w3.heap.size = bl := ⟨_, rfl⟩
  rw [hbl] at LR0 z3 ⊢
  have HR0 := hide LR0
  clear LR0 own4 gr4 c0 c1 c2 c3 c4
  go_wp2_with fail
  go_loopw [8] (fun x wr => ∃ (i : Nat) (V : Nat → List Value) (Z : List Value), x = .int .i64 (i : Int) ∧ Hid (i ≤ ln + 4) ∧ Hid (LRow w3 wr bl i (ln + 4) l V Z)) (fun x _ => ln + 4 - (intOf x).toNat)
  case atStart => exact ⟨0, _, _, rfl, hide (by omega), HR0⟩
  case round =>
    clear HR0
    obtain ⟨i, V, Z, rfl, HI, HR⟩ := hrel
    have hlr := (unhide HR).lt
    have r0 : wr.heap[g]? = some (.cells #[.int .i64 k, .int .i64 n, .string s, .slice al ln cl, .slice ak m ck] 34 (0, 0)) := ((unhide HR).below.block g (by omega)).trans (unhide H3).at0
    obtain ⟨c0, c1, c2, c3, c4⟩ := row_cell r0
    by_cases hlt : i < ln + 4
    · have i1 : (i : Int) < (ln : Int) + 4 := by omega
      obtain ⟨z0, z1, z2, z3', z4, Bz, hrow, hBz, hfl⟩ := (unhide HR).at hlt
      obtain ⟨⟨y0, y1, y2, y3, y4⟩, hfz⟩ := five_get hfl hrow
      have hz0' := hfz (i * 5)
      have hz1' := hfz (i * 5 + 1)
      have hz2' := hfz (i * 5 + 2)
      have hz3' := hfz (i * 5 + 3)
      have hz4' := hfz (i * 5 + 4)
      clear hfz
      have CM := hide (mark_any wr)
      have HRW := hide (And.intro hrow (And.intro hBz hfl))
      clear hrow hBz hfl y0 y1 y2 y3 y4 hz0' hz1' hz2' hz3' hz4'
      go_wp2_with fail
      refine (unhide CM).mono ?_
      rintro e u ⟨rfl, b1⟩
      have hru := (b1.block bl hlr).trans (unhide HRW).1
      obtain ⟨⟨y0, y1, y2, y3, y4⟩, hfz⟩ := five_get (unhide HRW).2.2 hru
      have hz0' := hfz (i * 5)
      have hz1' := hfz (i * 5 + 1)
      have hz2' := hfz (i * 5 + 2)
      have hz3' := hfz (i * 5 + 3)
      have hz4' := hfz (i * 5 + 4)
      have HU := hide (And.intro hru b1)
      clear hru b1 hfz CM c0 c1 c2 c3 c4
      go_upto_region 10 with fail
      obtain ⟨wm, hwm⟩ : ∃ wm, fiveSet u bl i (.int .i64 2) (.int .i64 77) (.string ⟨#[]⟩) (.slice none 0 0) (.slice none 0 0) = wm := ⟨_, rfl⟩
      have hwm' := hwm
      unfold fiveSet at hwm'
      rw [hwm']
      obtain ⟨f1, f2, f3⟩ := fiveSet_facts u bl i (.int .i64 2) (.int .i64 77) (.string ⟨#[]⟩) (.slice none 0 0) (.slice none 0 0)
      rw [hwm] at f1 f2 f3
      obtain ⟨hru, bu⟩ := unhide HU
      have hrm : wm.heap[bl]? = some (.cells (flat V i ++ [Value.int .i64 2, Value.int .i64 77, Value.string ⟨#[]⟩, Value.slice none 0 0, Value.slice none 0 0] ++ Bz).toArray 34 (0, 0)) := by
        rw [← hwm]
        exact five_row u bl i _ _ Bz _ _ _ _ _ _ _ _ _ _ (unhide HRW).2.2 hru
      have bwm : Below bl wr wm := (bu.mono (by omega)).trans f3
      have hsm : wr.heap.size ≤ wm.heap.size := bwm.size
      have rm : wm.heap[g]? = some (.cells #[.int .i64 k, .int .i64 n, .string s, .slice al ln cl, .slice ak m ck] 34 (0, 0)) := (bwm.block g (by omega)).trans r0
      obtain ⟨c0, c1, c2, c3, c4⟩ := row_cell rm
      have HM : Hid (∀ c, bl < c → c < wr.heap.size → wm.heap[c]? = wr.heap[c]?) := hide (fun c h1 h2 => (f1 c (by omega)).trans (bu.block c h2))
      have HMark : Hid (LRow w3 wm bl (i + 1) (ln + 4) l (putV V i [.int .i64 2, .int .i64 77, .string ⟨#[]⟩, .slice none 0 0, .slice none 0 0]) Bz ∨ i < ln) := hide (by
        by_cases hil : i < ln
        · exact Or.inr hil
        · left
          rw [← hwm]
          refine (unhide HR).next (u := u) hlt (bu.mono (by omega)) (fun c h1 h2 => bu.block c h2) hru (unhide HRW).2.1 (fun _ => rfl) (fun y hy => ?_)
          have := (List.getElem?_eq_some_iff.1 hy).1
          have := (unhide HL).2
          omega)
      have HWM := hide (And.intro hrm (And.intro bwm rm))
      have HI1 : Hid (i + 1 ≤ ln + 4) := hide (by omega)
      clear f1 f2 f3 hru bu hrm hwm hwm' y0 y1 y2 y3 y4 hz0' hz1' hz2' hz3' hz4' HU rm bwm
      by_cases hil : i < ln
      · have j1 : (i : Int) < (ln : Int) := by omega
        obtain ⟨y, hy⟩ : ∃ y, l[i]? = some y := ⟨_, List.getElem?_eq_getElem (by have := (unhide HL).2; omega)⟩
        have bwB : Below B w wm := by
          have h1 : Below bl w3 wm := (unhide HR).below.trans (unhide HWM).2.1
          have h2 : Below g w w3 := (unhide H3).below
          exact (h2.mono (by omega)).trans (h1.mono (by omega))
        obtain ⟨av, q0, q1, q2, al', ak', ll', m', cl', ck', rfl, hab, hce, hve⟩ := IsV.elem (IsV.mono bwB (unhide HV)) i y hy
        have e0 : wm.cell? (av.add (i * 5)) = some (.int .i64 q0) := hce 0 _ rfl
        have e1' : wm.cell? ⟨(av.add (i * 5)).block, (av.add (i * 5)).off + 1, none⟩ = some (.int .i64 q1) := hce 1 _ rfl
        have e2' : wm.cell? ⟨(av.add (i * 5)).block, (av.add (i * 5)).off + 2, none⟩ = some (.string q2) := hce 2 _ rfl
        have e3' : wm.cell? ⟨(av.add (i * 5)).block, (av.add (i * 5)).off + 3, none⟩ = some (.slice al' ll' cl') := hce 3 _ rfl
        have e4' : wm.cell? ⟨(av.add (i * 5)).block, (av.add (i * 5)).off + 4, none⟩ = some (.slice ak' m' ck') := hce 4 _ rfl
        have CI := hide (lent_any d y _ 1 B wm (unhide HEL i y hy).1 (unhide HEL i y hy).2 (by omega) (by omega) hve (by omega))
        have HY := hide hy
        clear hce hve hy bwB
        go_wp2_with fail
        refine (unhide CI).mono ?_
        rintro e u2 ⟨x', rfl, p2, b2⟩
        obtain ⟨bl2, bk2, V2, hx2, hf2, hl2⟩ := id p2
        unfold hd at hx2
        subst hx2
        clear hf2 hl2
        have hlm : bl < wm.heap.size := by omega
        have hr2 := (b2.block bl hlm).trans (unhide HWM).1
        obtain ⟨⟨y0, y1, y2, y3, y4⟩, hfz⟩ := five_get (unhide HRW).2.2 hr2
        have hz0' := hfz (i * 5)
        have hz1' := hfz (i * 5 + 1)
        have hz2' := hfz (i * 5 + 2)
        have hz3' := hfz (i * 5 + 3)
        have hz4' := hfz (i * 5 + 4)
        have HP2 := hide (And.intro p2 (And.intro b2 hr2))
        clear p2 b2 hr2 hfz CI c0 c1 c2 c3 c4 e0 e1' e2' e3' e4'
        go_wp2_with fail
        go_roundw
        case rel =>
          obtain ⟨p2, b2, hr2⟩ := unhide HP2
          have bw := (unhide HWM).2.1
          refine ⟨i + 1, _, _, by go_num, HI1, hide ((unhide HR).next (u := u2) hlt (bw.trans (b2.mono (by omega))) (fun c h1 h2 => (b2.block c (by omega)).trans (unhide HM c h1 h2)) hr2 (unhide HRW).2.1 (fun h => by have := (unhide HL).2; omega) (fun y' hy' => ?_))⟩
          rw [unhide HY] at hy'
          cases hy'
          exact p2.to (fun _ _ => rfl) (fun b hb => ⟨by omega, hb.2⟩)
        case measure => have := unhide HI1; simp [intOf]; omega
      · have j1 : ¬ (i : Int) < (ln : Int) := by omega
        have HR' := hide ((unhide HMark).resolve_right hil)
        go_wp2_with fail
        go_roundw
        case rel => exact ⟨i + 1, _, _, by go_num, HI1, HR'⟩
        case measure => have := unhide HI1; simp [intOf]; omega
    · have hin : i = ln + 4 := by have := unhide HI; omega
      subst hin
      obtain ⟨wo, hwo⟩ : ∃ wo, wo = wr := ⟨_, rfl⟩
      subst hwo
      have i1 : ¬ ((ln + 4 : Nat) : Int) < (ln : Int) + 4 := by omega
      have tokB : True := trivial
      go_upto_region 13 with (first | (have _t := tokB; at_make; refine wpList_make_full _ rfl _ _ 32 rfl wo.heap.size 9 is _ 1 Try.underlying32 his hy0 hy1 _ _ _ _ (m + 4) rfl rfl (by omega) (by omega) (by rw [hy2]; omega) (by unfold maxLen; omega) (Nat.le_refl _) ?_; intro w6 own6 gr6; clear tokB))
      have KR0 : KRow wo w6 wo.heap.size 0 (m + 4) ks (madeCells (.string ⟨#[]⟩ : Value).cells ((m + 4) * 1)).toList := by
        refine ⟨by rw [List.take_zero, List.nil_append]; exact own_all own6, by rw [Array.length_toList, size_madeCells]; omega, (Below.refl _ _).grown gr6 (Nat.le_refl _) (by simp), lt_of_row (own_all own6)⟩
      obtain ⟨bk, hbk⟩ : ∃ bk, wo.heap.size = bk := ⟨_, rfl⟩
      rw [hbk] at KR0
      try rw [hbk]
      have HK0 := hide KR0
      clear KR0 own6 gr6 c0 c1 c2 c3 c4
      go_wp2_with fail
      go_loopw [10] (fun x wq => ∃ (j : Nat) (Z : List Value), x = .int .i64 (j : Int) ∧ Hid (j ≤ m + 4) ∧ Hid (KRow wo wq bk j (m + 4) ks Z)) (fun x _ => m + 4 - (intOf x).toNat)
      case atStart => exact ⟨0, _, rfl, hide (by omega), HK0⟩
      case round =>
        clear HK0
        obtain ⟨j, Z2, rfl, HJ, HK⟩ := hrel
        have hkr := (unhide HK).lt
        have hM : m + 4 = ks.length + 4 := by have := (unhide HL).1; omega
        have bo : Below bl w3 wr := (unhide HR).below.trans ((unhide HK).below.mono (by omega))
        have r0' : wr.heap[g]? = some (.cells #[.int .i64 k, .int .i64 n, .string s, .slice al ln cl, .slice ak m ck] 34 (0, 0)) := (bo.block g (by omega)).trans (unhide H3).at0
        obtain ⟨c0, c1, c2, c3, c4⟩ := row_cell r0'
        by_cases hjm : j < m + 4
        · have j1 : (j : Int) < (m : Int) + 4 := by omega
          obtain ⟨z, Bk, hZ, hBk, hcz, hfz⟩ := (unhide HK).at hM hjm
          subst hZ
          have HJ1 : Hid (j + 1 ≤ m + 4) := hide (by omega)
          go_upto_region 17 with fail
          obtain ⟨wm, hwm⟩ : ∃ wm, wr.setCell ⟨bk, j, none⟩ (.string ⟨#[109, 97, 114, 107]⟩) = wm := ⟨_, rfl⟩
          rw [hwm]
          have bwm : Below bk wr wm := by rw [← hwm]; exact (Below.refl _ _).setCell (p := ⟨bk, j, none⟩) (Nat.le_refl _) _
          have hlk : ((rowK ks).take j).length = j := by rw [List.length_take, rowK_len]; omega
          have hrm : wm.heap[bk]? = some (.cells ((rowK ks).take j ++ markK :: Bk).toArray 9 (0, 0)) := by
            rw [← hwm, heap_setCell_same wr bk j _ _ _ (unhide HK).row, set_one _ Bk j z _ hlk]
            rfl
          have HMk : Hid (j < m ∨ KRow wo wm bk (j + 1) (m + 4) ks Bk) := hide (by
            by_cases hj : j < m
            · exact Or.inl hj
            · right
              rw [← hwm]
              exact (unhide HK).next hM hjm (unhide HK).row (Below.refl _ _) (rowK_mark ks j (by omega) (by omega)))
          have rm : wm.heap[g]? = some (.cells #[.int .i64 k, .int .i64 n, .string s, .slice al ln cl, .slice ak m ck] 34 (0, 0)) := (bwm.block g (by omega)).trans r0'
          have bwB : Below B w wm := ((unhide H3).below.mono (by omega)).trans ((bo.mono (by omega)).trans (bwm.mono (by omega)))
          have HWM := hide (And.intro hrm (And.intro bwm (And.intro bo bwB)))
          clear c0 c1 c2 c3 c4 hcz hfz hwm hrm bwm r0' bo bwB
          obtain ⟨c0, c1, c2, c3, c4⟩ := row_cell rm
          by_cases hj : j < m
          · have j2 : (j : Int) < (m : Int) := by omega
            obtain ⟨t, ht⟩ : ∃ t, ks[j]? = some t := ⟨_, List.getElem?_eq_getElem (by have := (unhide HL).1; omega)⟩
            have hkk := (IsV.keys (IsV.mono (unhide HWM).2.2.2 (unhide HV))).1
            obtain ⟨a2, rfl⟩ : ∃ a2, ak = some a2 := by
              cases ak with
              | none => have h1 := hkk.none rfl; have h2 := (unhide HL).1; omega
              | some a2 => exact ⟨a2, rfl⟩
            have cK := hkk.cell a2 rfl j t ht
            have cz : wm.cell? ⟨bk, j, none⟩ = some markK := by
              rw [cell_of_row wm bk j _ _ (0, 0) (unhide HWM).1, List.getElem?_toArray, List.getElem?_append_right (by omega), hlk, Nat.sub_self]
              rfl
            have cf : wm.frozen? ⟨bk, j, none⟩ = false := frozen_of_row wm bk j _ _ (unhide HWM).1
            have HT := hide ht
            clear hkk ht
            go_wp2_with fail
            go_roundw
            case rel =>
              refine ⟨j + 1, Bk, by go_num, HJ1, hide ?_⟩
              have h1 : KRow wo wm bk j (m + 4) ks (markK :: Bk) := ⟨(unhide HWM).1, by simp; omega, (unhide HK).below.trans (unhide HWM).2.1, lt_of_row (unhide HWM).1⟩
              exact h1.next hM hjm (unhide HWM).1 (Below.refl _ _) (rowK_at ks j t (unhide HT))
            case measure => have := unhide HJ1; simp [intOf]; omega
          · have j2 : ¬ (j : Int) < (m : Int) := by omega
            have HK' := hide ((unhide HMk).resolve_left hj)
            go_wp2_with fail
            go_roundw
            case rel => exact ⟨j + 1, _, by go_num, HJ1, HK'⟩
            case measure => have := unhide HJ1; simp [intOf]; omega
        · have hjn : j = m + 4 := by have := unhide HJ; omega
          subst hjn
          have j1 : ¬ ((m + 4 : Nat) : Int) < (m : Int) + 4 := by omega
          have ro : wr.heap[g + 1 + 1]? = some (.cells #[.int .i64 k, .int .i64 n, .string s, .slice al ln cl, .slice ak m ck] 34 (0, 0)) := (bo.block (g + 1 + 1) (by omega)).trans (unhide H3).at2
          have rr : wr.heap[g + 1]? = some (.cells #[.int .i64 0, .int .i64 0, .string ⟨#[]⟩, .slice none 0 0, .slice none 0 0] 34 (0, 0)) := (bo.block (g + 1) (by omega)).trans (unhide H3).at1
          obtain ⟨o0, o1, o2, o3, o4⟩ := row_cell ro
          have of3 := frozen_of_row wr (g + 1 + 1) 3 _ _ ro
          have of4 := frozen_of_row wr (g + 1 + 1) 4 _ _ ro
          obtain ⟨p0, p1, p2, p3, p4⟩ := row_cell rr
          have pf0 := frozen_of_row wr (g + 1) 0 _ _ rr
          have pf1 := frozen_of_row wr (g + 1) 1 _ _ rr
          have pf2 := frozen_of_row wr (g + 1) 2 _ _ rr
          have pf3 := frozen_of_row wr (g + 1) 3 _ _ rr
          have pf4 := frozen_of_row wr (g + 1) 4 _ _ rr
          have s1 : (ln : Int) ≤ (ln : Int) + 4 := by omega
          have s2 : (m : Int) ≤ (m : Int) + 4 := by omega
          have s3 : ln ≤ ln + 4 := by omega
          have s4 : m ≤ m + 4 := by omega
          have HM := hide hM
          clear hM
          go_wp2_with fail
          have w81 : ∀ c, c ≠ g + 1 + 1 → ((wr.setCell ⟨g + 1 + 1, 3, none⟩ (.slice (some ⟨bl, 0, none⟩) ln (ln + 4))).setCell ⟨g + 1 + 1, 4, none⟩ (.slice (some ⟨bk, 0, none⟩) m (m + 4))).heap[c]? = wr.heap[c]? := fun c hc => by rw [heap_setCell_other _ _ _ _ hc, heap_setCell_other _ _ _ _ hc]
          have w82 : ((wr.setCell ⟨g + 1 + 1, 3, none⟩ (.slice (some ⟨bl, 0, none⟩) ln (ln + 4))).setCell ⟨g + 1 + 1, 4, none⟩ (.slice (some ⟨bk, 0, none⟩) m (m + 4))).heap.size = wr.heap.size := by simp
          have w83 : Below g w ((wr.setCell ⟨g + 1 + 1, 3, none⟩ (.slice (some ⟨bl, 0, none⟩) ln (ln + 4))).setCell ⟨g + 1 + 1, 4, none⟩ (.slice (some ⟨bk, 0, none⟩) m (m + 4))) := (((unhide H3).below.trans (bo.mono (by omega))).setCell (p := ⟨g + 1 + 1, 3, none⟩) (by show g ≤ g + 1 + 1; omega) _).setCell (p := ⟨g + 1 + 1, 4, none⟩) (by show g ≤ g + 1 + 1; omega) _
          generalize (wr.setCell ⟨g + 1 + 1, 3, none⟩ (.slice (some ⟨bl, 0, none⟩) ln (ln + 4))).setCell ⟨g + 1 + 1, 4, none⟩ (.slice (some ⟨bk, 0, none⟩) m (m + 4)) = w8 at w81 w82 w83 ⊢
          have F9 := five_set w8 (g + 1) 34 _ _ _ _ _ (.int .i64 k) (.int .i64 n) (.string s) (.slice (some ⟨bl, 0, none⟩) ln (ln + 4)) (.slice (some ⟨bk, 0, none⟩) m (m + 4)) ((w81 (g + 1) (by omega)).trans rr)
          have G9 := fun c hc => five_other w8 (g + 1) c (.int .i64 k) (.int .i64 n) (.string s) (.slice (some ⟨bl, 0, none⟩) ln (ln + 4)) (.slice (some ⟨bk, 0, none⟩) m (m + 4)) hc
          have B9 := five_below (g := g + 1) w83 (by omega) (.int .i64 k) (.int .i64 n) (.string s) (.slice (some ⟨bl, 0, none⟩) ln (ln + 4)) (.slice (some ⟨bk, 0, none⟩) m (m + 4))
          have Z9 : (((((w8.setCell ⟨g + 1, 0, none⟩ (.int .i64 k)).setCell ⟨g + 1, 1, none⟩ (.int .i64 n)).setCell ⟨g + 1, 2, none⟩ (.string s)).setCell ⟨g + 1, 3, none⟩ (.slice (some ⟨bl, 0, none⟩) ln (ln + 4))).setCell ⟨g + 1, 4, none⟩ (.slice (some ⟨bk, 0, none⟩) m (m + 4))).heap.size = w8.heap.size := by simp
          generalize (((((w8.setCell ⟨g + 1, 0, none⟩ (.int .i64 k)).setCell ⟨g + 1, 1, none⟩ (.int .i64 n)).setCell ⟨g + 1, 2, none⟩ (.string s)).setCell ⟨g + 1, 3, none⟩ (.slice (some ⟨bl, 0, none⟩) ln (ln + 4))).setCell ⟨g + 1, 4, none⟩ (.slice (some ⟨bk, 0, none⟩) m (m + 4))) = w9 at F9 G9 B9 Z9 ⊢
          obtain ⟨t0, t1, t2, t3, t4⟩ := row_cell F9
          refine bodyPost_ret (v := .agg #[.int .i64 k, .int .i64 n, .string s, .slice (some ⟨bl, 0, none⟩) ln (ln + 4), .slice (some ⟨bk, 0, none⟩) m (m + 4)]) (by simp [results, Try.results13, go_sem, t0, t1, t2, t3, t4]) rfl ?_
          have hkeep : ∀ c, g + 3 ≤ c → w9.heap[c]? = wr.heap[c]? := fun c hc => (G9 c (by omega)).trans (w81 c (by omega))
          have hol : ∀ c, c < bk → wr.heap[c]? = wo.heap[c]? := fun c hc => (unhide HK).below.block c hc
          have hZ0 : Z = [] := List.eq_nil_of_length_eq_zero (by rw [(unhide HR).zl]; omega)
          have hZ2 : Z2 = [] := List.eq_nil_of_length_eq_zero (by rw [(unhide HK).zl]; omega)
          have hrl := (unhide HR).row
          rw [hZ0, List.append_nil] at hrl
          have hrk := (unhide HK).row
          rw [hZ2, List.append_nil, List.take_of_length_le (by rw [rowK_len]; have := unhide HM; omega)] at hrk
          have hwo : bl < bk := by omega
          obtain ⟨hlm, hll⟩ := unhide HL
          have hfin := Ln.of (w := w9) (P := fun b => g ≤ b ∧ b < w9.heap.size) (kind := k) (n := n) (s := s) (l := l) (ks := ks) (bl := bl) (bk := bk) (V := V) ⟨⟨by omega, by omega⟩, ⟨by omega, by omega⟩, by rw [hll, hkeep bl (by omega), hol bl hwo]; exact hrl, by rw [hll]; exact (unhide HR).hv, by rw [hll]; intro q h1 h2; exact (unhide HR).hm q (by rw [hll]; exact h1) h2, by rw [hkeep bk (by omega)]; exact hrk⟩
            (fun q y hq => ((unhide HR).el q y hq (by have := (List.getElem?_eq_some_iff.1 hq).1; omega)).to (fun b hb => (hkeep b (by omega)).trans (hol b (by omega))) (fun b hb => ⟨by omega, by omega⟩))
          rw [hlm, hll] at hfin
          exact ⟨_, rfl, hfin, B9⟩
end Go.Proofs.Ytlmgiimgmjbkeaa
