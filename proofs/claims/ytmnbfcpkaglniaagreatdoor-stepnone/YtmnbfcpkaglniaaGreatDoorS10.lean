/-
  The walk of layElements: a value's elements, each behind the others; conditions: the lengths together are below 2^47.
-/
import Derived.Test.YtmnbfcpkaglniaaGreatDoorS05
import Derived.Test.YtmnbfcpkaglniaaGreatDoorS09
import Derived.Test.YtmnbfcpkaglniaaGreatDoorS01
import Derived.Deep.QuietTactic
import Derived.BigQuiet
set_option linter.unusedVariables false
set_option linter.unusedSimpArgs false
namespace Go.Proofs.YtmnbfcpkaglniaaGreatDoor
open Go.RowKit
theorem wencL_cut (r : Bool) : ∀ (l : List Vl) (ks : List ByteArray) (i : Nat), wencL r l ks = wencL r (l.take i) ks ++ wencL r (l.drop i) (ks.drop i)
  | [], ks, i => by simp [wencL_nil]
  | x :: xs, ks, 0 => by simp [wencL_nil]
  | x :: xs, ks, i + 1 => by
    have h := wencL_cut r xs ks.tail i
    rw [List.take_succ_cons, List.drop_succ_cons, wencL_cons, wencL_cons, h]
    have e : ks.tail.drop i = ks.drop (i + 1) := by cases ks <;> simp
    rw [e]
    simp only [List.append_assoc]
theorem wencL_take_le (r : Bool) (l : List Vl) (ks : List ByteArray) (i : Nat) : (wencL r (l.take i) ks).length ≤ (wencL r l ks).length := by
  have h := congrArg List.length (wencL_cut r l ks i)
  rw [List.length_append] at h
  omega
theorem putText_nil (s : ByteArray) (w : World) (hs : s.size ≤ 140737488351232) :
    Calls Tryz.prog 120 #[.slice none 0 0, .string s] w fun e w' => ∃ g c : Nat, e = .returned (.slice (some ⟨g, 0, none⟩) (tx s).length c) ∧ Row8 w' (some ⟨g, 0, none⟩) (tx s).length c (tx s) ∧ Below w.heap.size w w' ∧ w.heap.size ≤ g := by
  refine (putText_any none 0 0 s [] w (nilRow w) (by omega)).mono ?_
  rintro e w' ⟨g, c, hg, rfl, hown, hb⟩
  have hlen : 0 + (encF 9 (s.size : Int)).length + s.size = (tx s).length := by unfold tx; rw [List.length_append, nums_len]; omega
  have hxs : ([] ++ encF 9 (s.size : Int) ++ nums s) = tx s := by unfold tx; simp
  rw [hlen, hxs] at hown
  rw [hlen]
  refine ⟨g, c, rfl, Row8.own hown (fun n hn => ?_), hb, hg⟩
  unfold tx at hn
  rcases List.mem_append.1 hn with h | h
  · exact encF9_bytes _ (by omega) (by omega) n h
  · exact nums_small s n h
def LayAt (b : Nat) : Prop := ∀ (v : Vl) (x : Value) (B base : Nat) (w : World) (sv : Value) (n : Nat) (xs : List Int), okB b v = true → IsV w B v x → B ≤ base → base ≤ w.heap.size → w.ownsRow base 5 1 sv n (xs.map (Value.int .u8)) → n + (wenc v).length ≤ 140737489403904 →
    Calls Tryz.prog 221 #[sv, x] w fun e w' => ∃ sv', e = .returned sv' ∧ w'.ownsRow base 5 1 sv' (n + (wenc v).length) ((xs ++ wenc v).map (Value.int .u8)) ∧ Grew w w' sv sv'
def ElemsAt (b : Nat) : Prop := ∀ (k n : Int) (s : ByteArray) (l : List Vl) (ks : List ByteArray) (x : Value) (B base : Nat) (w : World) (sv : Value) (N : Nat) (xs : List Int), okL b l = true → (k = 5 → ks.length = l.length) → IsV w B (.mk k n s l ks) x → B ≤ base → base ≤ w.heap.size → w.ownsRow base 5 1 sv N (xs.map (Value.int .u8)) → N + (encF 9 (l.length : Int) ++ wencL (decide (k = 5)) l ks).length ≤ 140737489403904 →
    Calls Tryz.prog 247 #[sv, x] w fun e w' => ∃ sv', e = .returned sv' ∧ w'.ownsRow base 5 1 sv' (N + (encF 9 (l.length : Int) ++ wencL (decide (k = 5)) l ks).length) ((xs ++ (encF 9 (l.length : Int) ++ wencL (decide (k = 5)) l ks)).map (Value.int .u8)) ∧ Grew w w' sv sv'
set_option maxRecDepth 100000 in
set_option maxHeartbeats 1000000 in
theorem elems_of (b : Nat) (ih : LayAt b) : ElemsAt b := by
  intro k n s l ks x B base w sv N xs hok hk5 hv hBb hbw hown hlim
  obtain ⟨k0, n0, s0, l0, ks0, al, ak, cl, ck, hv0, rfl⟩ := hv.shape
  cases hv0
  obtain ⟨m, hm⟩ : ∃ m, ks.length = m := ⟨_, rfl⟩
  obtain ⟨ln, hln⟩ : ∃ ln, l.length = ln := ⟨_, rfl⟩
  obtain ⟨r, hr⟩ : ∃ r, decide (k = 5) = r := ⟨_, rfl⟩
  rw [hm, hln] at hv hk5
  rw [hr, hln] at hlim
  rw [hm, hln, hr]
  obtain ⟨hlb, hmb⟩ : ln ≤ 140737488351232 ∧ ∀ t ∈ ks, t.size ≤ 140737488351232 := by
    obtain ⟨_, _, _, h1, h2, V, hf, _⟩ := IsP.at hv
    exact ⟨by rw [← hln]; exact hf.bl, hf.bt⟩
  obtain ⟨w1, hw1⟩ : ∃ w1, w.alloc (.cells #[.int .i64 k, .int .i64 n, .string s, .slice al ln cl, .slice ak m ck] 29) = w1 := ⟨_, rfl⟩
  have BX := Box.mk' w (.int .i64 k) (.int .i64 n) (.string s) (.slice al ln cl) (.slice ak m ck)
  rw [hw1] at BX
  obtain ⟨g, hg⟩ : ∃ g, w.heap.size = g := ⟨_, rfl⟩
  have z1 := BX.size
  have hgn : some g ≠ sv.ownBlock := fun e => by have := (hown.lt g e.symm).2; omega
  have HRW : Hid (∀ u v, Grew w1 u sv v → u.heap[g]? = some (.cells #[.int .i64 k, .int .i64 n, .string s, .slice al ln cl, .slice ak m ck] 29 (0, 0))) := hide (fun u v hu => by rw [hu.far (by omega) hgn]; rw [← hg]; exact BX.row)
  have own1 : w1.ownsRow base 5 1 sv N (xs.map (Value.int .u8)) := by rw [← hw1]; exact hown.alloc _
  have HV : Hid (∀ u v, Grew w1 u sv v → IsV u B (.mk k n s l ks) (.agg #[.int .i64 k, .int .i64 n, .string s, .slice al ln cl, .slice ak m ck])) := hide (fun u v hu => hv.mono ((BX.below.mono (by omega)).trans ((hu.below own1 (by omega)).mono hBb)))
  have HO1 := hide own1
  have HB1 := hide BX.below
  have HL := hide (And.intro hm (And.intro hln (And.intro hr (And.intro hok hmb))))
  have CU := hide (putUint_nil (ln : Int) w1 (by omega) (by omega))
  obtain ⟨c0, c1, c2, c3, c4⟩ := row_cell (unhide HRW w1 sv (Grew.refl _ _))
  have hb1 : base ≤ w1.heap.size := by omega
  have z1g : w1.heap.size = g + 1 := by omega
  rw [z1g] at CU
  clear z1
  obtain ⟨E, hE⟩ : ∃ E, encF 9 (ln : Int) = E := ⟨_, rfl⟩
  rw [hE] at CU hlim ⊢
  have hlim2 : N + E.length ≤ 140737489403904 := by rw [List.length_append] at hlim; omega
  have HLIM := hide hlim
  have lnu : IntKind.u64.wrap (ln : Int) = (ln : Int) := by rw [IntKind.wrap_u64]; omega
  clear BX hv hown own1 hm hln hok hmb hE hlim hr
  go_enter Tryz.func247, Tryz.ntmps247
  go_wp2_with fail
  refine (unhide CU).mono ?_
  rintro e w2 ⟨rfl, r2, b2⟩
  rw [← z1g] at b2
  have H2 := hide (And.intro r2 b2)
  have z2 := b2.size
  clear r2 b2 CU
  have tok1 : True := trivial
  go_wp2_with (first | (at_builtin; have _t := tok1; refine wpl_app rfl (.tmp 7) (.tmp 12) rfl base N sv xs rfl (own_below (unhide HO1) (unhide H2).2) (some ⟨g + 1, 0, none⟩) E.length 10 E rfl (unhide H2).1 hlim2 (by omega) ?_; intro sv2 w3 H3; have HG3 : Hid (Grew w1 w3 sv sv2 ∧ w3.ownsRow base 5 1 sv2 (N + E.length) ((xs ++ E).map (Value.int .u8))) := hide ⟨Grew.behind (unhide H2).2 (unhide H3).2, (unhide H3).1⟩; clear H3 H2 c0 c1 c2 c3 c4; obtain ⟨c0, c1, c2, c3, c4⟩ := row_cell (unhide HRW w3 sv2 (unhide HG3).1); clear tok1))
  clear c0 c1 c2 c3 c4
  go_loopw [0, 17] (fun v x wr => ∃ (i M : Nat), i ≤ ln ∧ x = .int .i64 (i : Int) ∧ M ≤ 140737489403904 ∧ Hid (Grew w1 wr sv v ∧ wr.ownsRow base 5 1 v M ((xs ++ E ++ wencL r (l.take i) ks).map (Value.int .u8)) ∧ M = N + E.length + (wencL r (l.take i) ks).length)) (fun _ x _ => ln - (intOf x).toNat)
  case atStart => exact ⟨0, N + E.length, Nat.zero_le _, rfl, hlim2, hide ⟨(unhide HG3).1, by simpa [wencL_nil] using (unhide HG3).2, by simp [wencL_nil]⟩⟩
  case round =>
    clear HG3
    obtain ⟨i, M, hi, rfl, hM, HI⟩ := hrel
    obtain ⟨vi, hvi⟩ : ∃ vi, vi = u0 := ⟨_, rfl⟩
    subst hvi
    have HRr := hide (unhide HRW wr vi (unhide HI).1)
    obtain ⟨c0, c1, c2, c3, c4⟩ := row_cell (unhide HRr)
    have zr : w1.heap.size ≤ wr.heap.size := (unhide HI).1.grown.size
    by_cases hlt : i < ln
    · have i1 : (i : Int) < (ln : Int) := by omega
      have HI1 : Hid (i + 1 ≤ ln) := hide (by omega)
      obtain ⟨y, hy⟩ : ∃ y, l[i]? = some y := ⟨_, List.getElem?_eq_getElem (by have := (unhide HL).2.1; omega)⟩
      have hvr := unhide HV wr vi (unhide HI).1
      obtain ⟨a, y0, y1, y2, al', ak', ll', m', cl', ck', rfl, hab, hce, hve⟩ := hvr.elem i y hy
      have e0 : wr.cell? (a.add (i * 5)) = some (.int .i64 y0) := hce 0 _ rfl
      have e1 : wr.cell? ⟨(a.add (i * 5)).block, (a.add (i * 5)).off + 1, none⟩ = some (.int .i64 y1) := hce 1 _ rfl
      have e2 : wr.cell? ⟨(a.add (i * 5)).block, (a.add (i * 5)).off + 2, none⟩ = some (.string y2) := hce 2 _ rfl
      have e3 : wr.cell? ⟨(a.add (i * 5)).block, (a.add (i * 5)).off + 3, none⟩ = some (.slice al' ll' cl') := hce 3 _ rfl
      have e4 : wr.cell? ⟨(a.add (i * 5)).block, (a.add (i * 5)).off + 4, none⟩ = some (.slice ak' m' ck') := hce 4 _ rfl
      obtain ⟨w5, hw5⟩ : ∃ w5, wr.alloc (.cells #[.int .i64 y0, .int .i64 y1, .string y2, .slice al' ll' cl', .slice ak' m' ck'] 29) = w5 := ⟨_, rfl⟩
      have BX5 := Box.mk' wr (.int .i64 y0) (.int .i64 y1) (.string y2) (.slice al' ll' cl') (.slice ak' m' ck')
      rw [hw5] at BX5
      obtain ⟨p0, p1, p2, p3, p4⟩ := row_cell BX5.row
      obtain ⟨q0, q1, q2, q3, q4⟩ := row_cell ((BX5.below.block g (by omega)).trans (unhide HRr))
      have own5 := own_below (unhide HI).2.1 BX5.below
      have hs5 := BX5.size
      have hybl : ∀ q, vi.ownBlock = some q → q < wr.heap.size := fun q e => ((unhide HI).2.1.lt q e).2
      have hnext := wencL_next r l ks i y hy
      have hle := wencL_take_le r l ks (i + 1)
      have HNX := hide (And.intro hnext hle)
      have HY := hide (And.intro hy (hve.mono (BX5.below.mono (by omega))))
      have H5 := hide (And.intro own5 (And.intro BX5 hybl))
      clear hvr hce hve hy BX5 own5 hybl hnext hle
      obtain ⟨h, hh⟩ : ∃ h, wr.heap.size = h := ⟨_, rfl⟩
      have HH := hide hh
      rw [hh] at p0 p1 p2 p3 p4
      have hok := okL_all b l (unhide HL).2.2.2.1 y (List.mem_of_getElem? (unhide HY).1)
      have hr := (unhide HL).2.2.1
      have HR0 : Hid (w5.heap[h]? = some (.cells #[.int .i64 y0, .int .i64 y1, .string y2, .slice al' ll' cl', .slice ak' m' ck'] 29 (0, 0))) := hide (by rw [← hh]; exact (unhide H5).2.1.row)
      have hs5' : w5.heap.size = h + 1 := by omega
      have hhr : h < w5.heap.size := by omega
      by_cases k5 : k = 5
      · subst k5
        have hr1 : r = true := by rw [← hr]; rfl
        subst hr1
        have hmn := hk5 rfl
        subst hmn
        obtain ⟨tk, htk⟩ : ∃ tk, ks[i]? = some tk := ⟨_, List.getElem?_eq_getElem (by have := (unhide HL).1; omega)⟩
        obtain ⟨a2, rfl⟩ : ∃ a2, ak = some a2 := by
          cases ak with
          | none => have h1 := (unhide HV wr vi (unhide HI).1).keys.1.none rfl; have h2 := (unhide HL).1; omega
          | some a2 => exact ⟨a2, rfl⟩
        have cK := cell_later (unhide H5).2.1.below ((unhide HV wr vi (unhide HI).1).keys.1.cell a2 rfl i tk htk)
        have hts := (unhide HL).2.2.2.2 tk (List.mem_of_getElem? htk)
        have CT := hide (putText_nil tk w5 hts)
        obtain ⟨T, hT⟩ : ∃ T, tx tk = T := ⟨_, rfl⟩
        have hkA : keyAt ks i = tk := keyAt_of ks i tk htk
        have hnx := (unhide HNX).1
        rw [hkA, if_pos rfl, hT] at hnx
        have hlen := congrArg List.length hnx
        rw [List.length_append, List.length_append] at hlen
        have hlm : N + (E.length + (wencL true l ks).length) ≤ 140737489403904 := by have := unhide HLIM; rw [List.length_append] at this; exact this
        have hM3 := (unhide HI).2.2
        have hle := (unhide HNX).2
        have hT1 : M + T.length ≤ 140737489403904 := by omega
        have hT2 : M + T.length + (wenc y).length ≤ 140737489403904 := by omega
        rw [hT] at CT
        have HN2 := hide (And.intro hnx hlen)
        have HM3 := hide hM3
        have hbr : base ≤ wr.heap.size := by omega
        clear hT hkA hnx hlen hlm hM3 hle htk
        go_wp2_with fail
        refine (unhide CT).mono ?_
        rintro e w6 ⟨g6, cp6, rfl, r6, b6, hg6⟩
        have H6 := hide (And.intro r6 b6)
        have z6 := b6.size
        clear r6 b6 CT p0 p1 p2 p3 p4 q0 q1 q2 q3 q4
        have hbw6 : base ≤ w6.heap.size := by omega
        have own6 := own_below (unhide H5).1 (unhide H6).2
        have HO6 := hide own6
        have HY6 := hide ((unhide HY).2.mono ((unhide H6).2.mono (by omega)))
        clear own6
        have tok2 : True := trivial
        go_wp2_with (first | (at_builtin; have _t := tok2; refine wpl_app rfl (.tmp 25) (.tmp 31) rfl base M vi (xs ++ E ++ wencL true (l.take i) ks) rfl (unhide HO6) (some ⟨g6, 0, none⟩) T.length cp6 T rfl (unhide H6).1 hT1 hbw6 ?_; intro v7 w7 H7; clear tok2; have R7 : w7.heap[h]? = some (.cells #[.int .i64 y0, .int .i64 y1, .string y2, .slice al' ll' cl', .slice ak' m' ck'] 29 (0, 0)) := (((unhide H7).2.far (by omega) (fun e => by have := (unhide H5).2.2 h e.symm; omega)).trans ((unhide H6).2.block h hhr)).trans (unhide HR0); obtain ⟨p0, p1, p2, p3, p4⟩ := row_cell R7; clear R7))
        have CI := hide (ih y _ B base w7 v7 (M + T.length) (xs ++ E ++ wencL true (l.take i) ks ++ T) hok ((unhide HY6).mono (((unhide H7).2.below (unhide HO6) hbw6).mono hBb)) hBb (by have := (unhide H7).2.grown.size; omega) (unhide H7).1 hT2)
        refine (unhide CI).mono ?_
        rintro e w8 ⟨v8, rfl, own8, gr8⟩
        have H8 : Hid (Grew w1 w8 sv v8 ∧ w8.ownsRow base 5 1 v8 (M + T.length + (wenc y).length) ((xs ++ E ++ wencL true (l.take (i + 1)) ks).map (Value.int .u8)) ∧ M + T.length + (wenc y).length = N + E.length + (wencL true (l.take (i + 1)) ks).length) := hide (by
          refine ⟨(unhide HI).1.trans (Grew.behind ((unhide H5).2.1.below.trans ((unhide H6).2.mono (by omega))) ((unhide H7).2.trans gr8)), ?_, ?_⟩
          · rw [(unhide HN2).1]
            simpa [List.append_assoc] using own8
          · have h1 := (unhide HN2).2
            have h2 := unhide HM3
            omega)
        have hM8 : M + T.length + (wenc y).length ≤ 140737489403904 := hT2
        clear own8 gr8 CI
        go_wp2_with fail
        go_roundw
        case rel => exact ⟨i + 1, _, unhide HI1, by go_num, hM8, H8⟩
        case measure => have := unhide HI1; simp [intOf]; omega
      · have hr1 : r = false := by rw [← hr]; exact decide_eq_false k5
        subst hr1
        have k5b : (k == (5 : Int)) = false := by simpa using k5
        have hnx := (unhide HNX).1
        rw [if_neg (by simp), List.append_nil] at hnx
        have hlen := congrArg List.length hnx
        rw [List.length_append] at hlen
        have hlm : N + (E.length + (wencL false l ks).length) ≤ 140737489403904 := by have := unhide HLIM; rw [List.length_append] at this; exact this
        have hM3 := (unhide HI).2.2
        have hle := (unhide HNX).2
        have hT2 : M + (wenc y).length ≤ 140737489403904 := by omega
        have HN2 := hide (And.intro hnx hlen)
        have HM3 := hide hM3
        clear hnx hlen hlm hM3 hle
        go_wp2_with fail
        have CI := hide (ih y _ B base w5 vi (M) (xs ++ E ++ wencL false (l.take i) ks) hok (unhide HY).2 hBb (by omega) (unhide H5).1 hT2)
        refine (unhide CI).mono ?_
        rintro e w8 ⟨v8, rfl, own8, gr8⟩
        have H8 : Hid (Grew w1 w8 sv v8 ∧ w8.ownsRow base 5 1 v8 (M + (wenc y).length) ((xs ++ E ++ wencL false (l.take (i + 1)) ks).map (Value.int .u8)) ∧ M + (wenc y).length = N + E.length + (wencL false (l.take (i + 1)) ks).length) := hide (by
          refine ⟨(unhide HI).1.trans (Grew.behind (unhide H5).2.1.below gr8), ?_, ?_⟩
          · rw [(unhide HN2).1]
            simpa [List.append_assoc] using own8
          · have h1 := (unhide HN2).2
            have h2 := unhide HM3
            omega)
        have hM8 : M + (wenc y).length ≤ 140737489403904 := hT2
        clear own8 gr8 CI
        go_wp2_with fail
        go_roundw
        case rel => exact ⟨i + 1, _, unhide HI1, by go_num, hM8, H8⟩
        case measure => have := unhide HI1; simp [intOf]; omega
    · have i1 : ¬ (i : Int) < (ln : Int) := by omega
      have hii : i = ln := by omega
      subst hii
      have hfin : wencL r (l.take i) ks = wencL r l ks := by rw [List.take_of_length_le (by rw [(unhide HL).2.1]; exact Nat.le_refl _)]
      have HF := hide hfin
      clear hfin
      go_wp2_with fail
      go_ret
      obtain ⟨hG, hO, hM'⟩ := unhide HI
      rw [unhide HF] at hO hM'
      have eM : N + (E.length + (wencL r l ks).length) = M := by omega
      rw [eM]
      refine ⟨vi, rfl, by simpa using hO, Grew.behind ?_ hG⟩
      first | exact unhide HB1 | (rw [← hg]; exact unhide HB1)
end Go.Proofs.YtmnbfcpkaglniaaGreatDoor
