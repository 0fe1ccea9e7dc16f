/-
  The walk of layElements: a value's elements, each behind the others; conditions: the lengths together are below 2^47.
-/
import Derived.Test.YtgkmdjmigehmeaaGreatDoorR08
import Derived.Test.YtgkmdjmigehmeaaGreatDoorR05
import Derived.Test.YtgkmdjmigehmeaaGreatDoorR02
import Derived.Deep.QuietTactic
import Derived.BigQuiet
namespace Go.Proofs.YtgkmdjmigehmeaaGreatDoor
set_option linter.unusedVariables false
set_option linter.unusedSimpArgs false
set_option maxRecDepth 100000
set_option maxHeartbeats 16000000
open Go.RowKit
theorem wencL_cut (r : Bool) : ∀ (l : List Vl) (ks : List ByteArray) (i : Nat), wencL r l ks = wencL r (l.take i) ks ++ wencL r (l.drop i) (ks.drop i)
 | [], ks, i => by simp [wencL_nil]
 | x :: xs, ks, 0 => by simp [wencL_nil]
 | x :: xs, ks, i + 1 => by
  have h := wencL_cut r xs ks.tail i
  rw [List.take_succ_cons, List.drop_succ_cons, wencL_cons, wencL_cons, h]
  have e : ks.tail.drop i = ks.drop (i + 1) := by cases ks <;> simp
  rw [e]
  simp only [List.append_assoc]
theorem wencL_take_le (r : Bool) (l : List Vl) (ks : List ByteArray) (i : Nat) : (wencL r (l.take i) ks).length ≤ (wencL r l ks).length := by
 have h := congrArg List.length (wencL_cut r l ks i)
 rw [List.length_append] at h
 omega
theorem putText_nil (s : ByteArray) (w : World) (hs : s.size ≤ 140737488351232) :
  Calls Tryz.prog 124 #[.slice none 0 0, .string s] w fun e w' => ∃ g c : Nat, e = .returned (.slice (some ⟨g, 0, none⟩) (tx s).length c) ∧ Row8 w' (some ⟨g, 0, none⟩) (tx s).length c (tx s) ∧ Below w.heap.size w w' ∧ w.heap.size ≤ g := by
 refine (putText_any none 0 0 s [] w (nilRow w) (by omega)).mono ?_
 rintro e w' ⟨g, c, hg, rfl, hown, hb⟩
 have hlen : 0 + (encF 9 (s.size : Int)).length + s.size = (tx s).length := by unfold tx; rw [List.length_append, nums_len]; omega
 have hxs : ([] ++ encF 9 (s.size : Int) ++ nums s) = tx s := by unfold tx; simp
 rw [hlen, hxs] at hown
 rw [hlen]
 refine ⟨g, c, rfl, Row8.own hown (fun n hn => ?_), hb, hg⟩
 unfold tx at hn
 rcases List.mem_append.1 hn with h | h
 ·exact encF9_bytes _ (by omega) (by omega) n h
 ·exact nums_small s n h
def LayAt (b : Nat) : Prop := ∀ (v : Vl) (x : Value) (B base : Nat) (w : World) (sv : Value) (n : Nat) (xs : List Int), okB b v = true → IsV w B v x → B ≤ base → base ≤ w.heap.size → w.ownsRow base 5 1 sv n (xs.map (Value.int .u8)) → n + (wenc v).length ≤ 140737489403904 →
  Calls Tryz.prog 95 #[sv, x] w fun e w' => ∃ sv', e = .returned sv' ∧ w'.ownsRow base 5 1 sv' (n + (wenc v).length) ((xs ++ wenc v).map (Value.int .u8)) ∧ Grew w w' sv sv'
def ElemsAt (b : Nat) : Prop := ∀ (k n : Int) (s : ByteArray) (l : List Vl) (ks : List ByteArray) (x : Value) (B base : Nat) (w : World) (sv : Value) (N : Nat) (xs : List Int), okL b l = true → (k = 5 → ks.length = l.length) → IsV w B (.mk k n s l ks) x → B ≤ base → base ≤ w.heap.size → w.ownsRow base 5 1 sv N (xs.map (Value.int .u8)) → N + (encF 9 (l.length : Int) ++ wencL (decide (k = 5)) l ks).length ≤ 140737489403904 →
  Calls Tryz.prog 125 #[sv, x] w fun e w' => ∃ sv', e = .returned sv' ∧ w'.ownsRow base 5 1 sv' (N + (encF 9 (l.length : Int) ++ wencL (decide (k = 5)) l ks).length) ((xs ++ (encF 9 (l.length : Int) ++ wencL (decide (k = 5)) l ks)).map (Value.int .u8)) ∧ Grew w w' sv sv'
theorem elems_of (b : Nat) (ih : LayAt b) : ElemsAt b := by
 intro k n s l ks x B base w sv N xs hok hk5 hv hBb hbw hown hlim
 obtain ⟨k0, n0, s0, l0, ks0, al, ak, cl, ck, hv0, rfl⟩ := hv.shape
 cases hv0
 obtain ⟨m, hm⟩ : ∃ m, ks.length = m := ⟨_, rfl⟩
 obtain ⟨ln, hln⟩ : ∃ ln, l.length = ln := ⟨_, rfl⟩
 obtain ⟨r, hr⟩ : ∃ r, decide (k = 5) = r := ⟨_, rfl⟩
 rw [hm, hln] at hv hk5
 rw [hr, hln] at hlim
 rw [hm, hln, hr]
 obtain ⟨hlb, hmb⟩ : ln ≤ 140737488351232 ∧ ∀ t ∈ ks, t.size ≤ 140737488351232 := by
  obtain ⟨_, _, _, h1, h2, V, hf, _⟩ := IsP.at hv
  exact ⟨by rw [← hln]; exact hf.bl, hf.bt⟩
 obtain ⟨w1, hw1⟩ : ∃ w1, w.alloc (.cells #[.int .i64 k, .int .i64 n, .string s, .slice al ln cl, .slice ak m ck] 25) = w1 := ⟨_, rfl⟩
 have BX := Box.mk' w (.int .i64 k) (.int .i64 n) (.string s) (.slice al ln cl) (.slice ak m ck)
 rw [hw1] at BX
 obtain ⟨g, hg⟩ : ∃ g, w.heap.size = g := ⟨_, rfl⟩
 have z1 := BX.size
 have hgn : some g ≠ sv.ownBlock := fun e => by have := (hown.lt g e.symm).2; omega
 have HRW : Hid (∀ u v, Grew w1 u sv v → u.heap[g]? = some (.cells #[.int .i64 k, .int .i64 n, .string s, .slice al ln cl, .slice ak m ck] 25 (0, 0))) := hide (fun u v hu => by rw [hu.far (by omega) hgn]; rw [← hg]; exact BX.row)
 have own1 : w1.ownsRow base 5 1 sv N (xs.map (Value.int .u8)) := by rw [← hw1]; exact hown.alloc _
 have HV : Hid (∀ u v, Grew w1 u sv v → IsV u B (.mk k n s l ks) (.agg #[.int .i64 k, .int .i64 n, .string s, .slice al ln cl, .slice ak m ck])) := hide (fun u v hu => hv.mono ((BX.below.mono (by omega)).trans ((hu.below own1 (by omega)).mono hBb)))
 have HO1 := hide own1
 have HB1 := hide BX.below
 have HL := hide (And.intro hm (And.intro hln (And.intro hr (And.intro hok hmb))))
 have CU := hide (putUint_nil (ln : Int) w1 (by omega) (by omega))
 obtain ⟨c0, c1, c2, c3, c4⟩ := row_cell (uh HRW w1 sv (Grew.refl _ _))
 have hb1 : base ≤ w1.heap.size := by omega
 have z1g : w1.heap.size = g + 1 := by omega
 rw [z1g] at CU
 clear z1
 obtain ⟨E, hE⟩ : ∃ E, encF 9 (ln : Int) = E := ⟨_, rfl⟩
 rw [hE] at CU hlim ⊢
 have hlim2 : N + E.length ≤ 140737489403904 := by rw [List.length_append] at hlim; omega
 have HLIM := hide hlim
 have lnu : IntKind.u64.wrap (ln : Int) = (ln : Int) := by rw [IntKind.wrap_u64]; omega
 clear BX hv hown own1 hm hln hok hmb hE hlim hr
 go_enter Tryz.func125, Tryz.ntmps125
 go_wp2_with fail
 refine (uh CU).mono ?_
 rintro e w2 ⟨rfl, r2, b2⟩
 rw [← z1g] at b2
 have H2 := hide (And.intro r2 b2)
 have z2 := b2.size
 clear r2 b2 CU
 have tok1 : True := trivial
 go_wp2_with (first | (at_builtin; have _t := tok1; refine wpl_app rfl (.tmp 7) (.tmp 12) rfl base N sv xs rfl (own_below (uh HO1) (uh H2).2) (some ⟨g + 1, 0, none⟩) E.length 10 E rfl (uh H2).1 hlim2 (by omega) ?_; intro sv2 w3 H3; have HG3 : Hid (Grew w1 w3 sv sv2 ∧ w3.ownsRow base 5 1 sv2 (N + E.length) ((xs ++ E).map (Value.int .u8))) := hide ⟨Grew.behind (uh H2).2 (uh H3).2, (uh H3).1⟩; clear H3 H2 c0 c1 c2 c3 c4; obtain ⟨c0, c1, c2, c3, c4⟩ := row_cell (uh HRW w3 sv2 (uh HG3).1); clear tok1))
 clear c0 c1 c2 c3 c4
 go_loopw [0, 17] (fun v x wr => ∃ (i M : Nat), i ≤ ln ∧ x = .int .i64 (i : Int) ∧ M ≤ 140737489403904 ∧ Hid (Grew w1 wr sv v ∧ wr.ownsRow base 5 1 v M ((xs ++ E ++ wencL r (l.take i) ks).map (Value.int .u8)) ∧ M = N + E.length + (wencL r (l.take i) ks).length)) (fun _ x _ => ln - (intOf x).toNat)
 case atStart => exact ⟨0, N + E.length, Nat.zero_le _, rfl, hlim2, hide ⟨(uh HG3).1, by simpa [wencL_nil] using (uh HG3).2, by simp [wencL_nil]⟩⟩
 case round =>
  clear HG3
  obtain ⟨i, M, hi, rfl, hM, HI⟩ := hrel
  obtain ⟨vi, hvi⟩ : ∃ vi, vi = u0 := ⟨_, rfl⟩
  subst hvi
  have HRr := hide (uh HRW wr vi (uh HI).1)
  obtain ⟨c0, c1, c2, c3, c4⟩ := row_cell (uh HRr)
  have zr : w1.heap.size ≤ wr.heap.size := (uh HI).1.grown.size
  by_cases hlt : i < ln
  ·have i1 : (i : Int) < (ln : Int) := by omega
   have HI1 : Hid (i + 1 ≤ ln) := hide (by omega)
   obtain ⟨y, hy⟩ : ∃ y, l[i]? = some y := ⟨_, List.getElem?_eq_getElem (by have := (uh HL).2.1; omega)⟩
   have hvr := uh HV wr vi (uh HI).1
   obtain ⟨a, y0, y1, y2, al', ak', ll', m', cl', ck', rfl, hab, hce, hve⟩ := hvr.elem i y hy
   have e0 : wr.cell? (a.add (i * 5)) = some (.int .i64 y0) := hce 0 _ rfl
   have e1 : wr.cell? ⟨(a.add (i * 5)).block, (a.add (i * 5)).off + 1, none⟩ = some (.int .i64 y1) := hce 1 _ rfl
   have e2 : wr.cell? ⟨(a.add (i * 5)).block, (a.add (i * 5)).off + 2, none⟩ = some (.string y2) := hce 2 _ rfl
   have e3 : wr.cell? ⟨(a.add (i * 5)).block, (a.add (i * 5)).off + 3, none⟩ = some (.slice al' ll' cl') := hce 3 _ rfl
   have e4 : wr.cell? ⟨(a.add (i * 5)).block, (a.add (i * 5)).off + 4, none⟩ = some (.slice ak' m' ck') := hce 4 _ rfl
   obtain ⟨w5, hw5⟩ : ∃ w5, wr.alloc (.cells #[.int .i64 y0, .int .i64 y1, .string y2, .slice al' ll' cl', .slice ak' m' ck'] 25) = w5 := ⟨_, rfl⟩
   have BX5 := Box.mk' wr (.int .i64 y0) (.int .i64 y1) (.string y2) (.slice al' ll' cl') (.slice ak' m' ck')
   rw [hw5] at BX5
   obtain ⟨p0, p1, p2, p3, p4⟩ := row_cell BX5.row
   obtain ⟨q0, q1, q2, q3, q4⟩ := row_cell ((BX5.below.block g (by omega)).trans (uh HRr))
   have own5 := own_below (uh HI).2.1 BX5.below
   have hs5 := BX5.size
   have hybl : ∀ q, vi.ownBlock = some q → q < wr.heap.size := fun q e => ((uh HI).2.1.lt q e).2
   have hnext := wencL_next r l ks i y hy
   have hle := wencL_take_le r l ks (i + 1)
   have HNX := hide (And.intro hnext hle)
   have HY := hide (And.intro hy (hve.mono (BX5.below.mono (by omega))))
   have H5 := hide (And.intro own5 (And.intro BX5 hybl))
   clear hvr hce hve hy BX5 own5 hybl hnext hle
   obtain ⟨h, hh⟩ : ∃ h, wr.heap.size = h := ⟨_, rfl⟩
   have HH := hide hh
   rw [hh] at p0 p1 p2 p3 p4
   have hok := okL_all b l (uh HL).2.2.2.1 y (List.mem_of_getElem? (uh HY).1)
   have hr := (uh HL).2.2.1
   have HR0 : Hid (w5.heap[h]? = some (.cells #[.int .i64 y0, .int .i64 y1, .string y2, .slice al' ll' cl', .slice ak' m' ck'] 25 (0, 0))) := hide (by rw [← hh]; exact (uh H5).2.1.row)
   have hs5' : w5.heap.size = h + 1 := by omega
   have hhr : h < w5.heap.size := by omega
   by_cases k5 : k = 5
   ·subst k5
    have hr1 : r = true := by rw [← hr]; rfl
    subst hr1
    have hmn := hk5 rfl
    subst hmn
    obtain ⟨tk, htk⟩ : ∃ tk, ks[i]? = some tk := ⟨_, List.getElem?_eq_getElem (by have := (uh HL).1; omega)⟩
    obtain ⟨a2, rfl⟩ : ∃ a2, ak = some a2 := by
     cases ak with
     | none => have h1 := (uh HV wr vi (uh HI).1).keys.1.none rfl; have h2 := (uh HL).1; omega
     | some a2 => exact ⟨a2, rfl⟩
    have cK := cell_later (uh H5).2.1.below ((uh HV wr vi (uh HI).1).keys.1.cell a2 rfl i tk htk)
    have hts := (uh HL).2.2.2.2 tk (List.mem_of_getElem? htk)
    have CT := hide (putText_nil tk w5 hts)
    obtain ⟨T, hT⟩ : ∃ T, tx tk = T := ⟨_, rfl⟩
    have hkA : keyAt ks i = tk := keyAt_of ks i tk htk
    have hnx := (uh HNX).1
    rw [hkA, if_pos rfl, hT] at hnx
    have hlen := congrArg List.length hnx
    rw [List.length_append, List.length_append] at hlen
    have hlm : N + (E.length + (wencL true l ks).length) ≤ 140737489403904 := by have := uh HLIM; rw [List.length_append] at this; exact this
    have hM3 := (uh HI).2.2
    have hle := (uh HNX).2
    have hT1 : M + T.length ≤ 140737489403904 := by omega
    have hT2 : M + T.length + (wenc y).length ≤ 140737489403904 := by omega
    rw [hT] at CT
    have HN2 := hide (And.intro hnx hlen)
    have HM3 := hide hM3
    have hbr : base ≤ wr.heap.size := by omega
    clear hT hkA hnx hlen hlm hM3 hle htk
    go_wp2_with fail
    refine (uh CT).mono ?_
    rintro e w6 ⟨g6, cp6, rfl, r6, b6, hg6⟩
    have H6 := hide (And.intro r6 b6)
    have z6 := b6.size
    clear r6 b6 CT p0 p1 p2 p3 p4 q0 q1 q2 q3 q4
    have hbw6 : base ≤ w6.heap.size := by omega
    have own6 := own_below (uh H5).1 (uh H6).2
    have HO6 := hide own6
    have HY6 := hide ((uh HY).2.mono ((uh H6).2.mono (by omega)))
    clear own6
    have tok2 : True := trivial
    go_wp2_with (first | (at_builtin; have _t := tok2; refine wpl_app rfl (.tmp 25) (.tmp 31) rfl base M vi (xs ++ E ++ wencL true (l.take i) ks) rfl (uh HO6) (some ⟨g6, 0, none⟩) T.length cp6 T rfl (uh H6).1 hT1 hbw6 ?_; intro v7 w7 H7; clear tok2; have R7 : w7.heap[h]? = some (.cells #[.int .i64 y0, .int .i64 y1, .string y2, .slice al' ll' cl', .slice ak' m' ck'] 25 (0, 0)) := (((uh H7).2.far (by omega) (fun e => by have := (uh H5).2.2 h e.symm; omega)).trans ((uh H6).2.block h hhr)).trans (uh HR0); obtain ⟨p0, p1, p2, p3, p4⟩ := row_cell R7; clear R7))
    have CI := hide (ih y _ B base w7 v7 (M + T.length) (xs ++ E ++ wencL true (l.take i) ks ++ T) hok ((uh HY6).mono (((uh H7).2.below (uh HO6) hbw6).mono hBb)) hBb (by have := (uh H7).2.grown.size; omega) (uh H7).1 hT2)
    refine (uh CI).mono ?_
    rintro e w8 ⟨v8, rfl, own8, gr8⟩
    have H8 : Hid (Grew w1 w8 sv v8 ∧ w8.ownsRow base 5 1 v8 (M + T.length + (wenc y).length) ((xs ++ E ++ wencL true (l.take (i + 1)) ks).map (Value.int .u8)) ∧ M + T.length + (wenc y).length = N + E.length + (wencL true (l.take (i + 1)) ks).length) := hide (by
     refine ⟨(uh HI).1.trans (Grew.behind ((uh H5).2.1.below.trans ((uh H6).2.mono (by omega))) ((uh H7).2.trans gr8)), ?_, ?_⟩
     ·rw [(uh HN2).1]
      simpa [List.append_assoc] using own8
     ·have h1 := (uh HN2).2
      have h2 := uh HM3
      omega)
    have hM8 : M + T.length + (wenc y).length ≤ 140737489403904 := hT2
    clear own8 gr8 CI
    go_wp2_with fail
    go_roundw
    case rel => exact ⟨i + 1, _, uh HI1, by go_num, hM8, H8⟩
    case measure => have := uh HI1; simp [intOf]; omega
   ·have hr1 : r = false := by rw [← hr]; exact decide_eq_false k5
    subst hr1
    have k5b : (k == (5 : Int)) = false := by simpa using k5
    have hnx := (uh HNX).1
    rw [if_neg (by simp), List.append_nil] at hnx
    have hlen := congrArg List.length hnx
    rw [List.length_append] at hlen
    have hlm : N + (E.length + (wencL false l ks).length) ≤ 140737489403904 := by have := uh HLIM; rw [List.length_append] at this; exact this
    have hM3 := (uh HI).2.2
    have hle := (uh HNX).2
    have hT2 : M + (wenc y).length ≤ 140737489403904 := by omega
    have HN2 := hide (And.intro hnx hlen)
    have HM3 := hide hM3
    clear hnx hlen hlm hM3 hle
    go_wp2_with fail
    have CI := hide (ih y _ B base w5 vi (M) (xs ++ E ++ wencL false (l.take i) ks) hok (uh HY).2 hBb (by omega) (uh H5).1 hT2)
    refine (uh CI).mono ?_
    rintro e w8 ⟨v8, rfl, own8, gr8⟩
    have H8 : Hid (Grew w1 w8 sv v8 ∧ w8.ownsRow base 5 1 v8 (M + (wenc y).length) ((xs ++ E ++ wencL false (l.take (i + 1)) ks).map (Value.int .u8)) ∧ M + (wenc y).length = N + E.length + (wencL false (l.take (i + 1)) ks).length) := hide (by
     refine ⟨(uh HI).1.trans (Grew.behind (uh H5).2.1.below gr8), ?_, ?_⟩
     ·rw [(uh HN2).1]
      simpa [List.append_assoc] using own8
     ·have h1 := (uh HN2).2
      have h2 := uh HM3
      omega)
    have hM8 : M + (wenc y).length ≤ 140737489403904 := hT2
    clear own8 gr8 CI
    go_wp2_with fail
    go_roundw
    case rel => exact ⟨i + 1, _, uh HI1, by go_num, hM8, H8⟩
    case measure => have := uh HI1; simp [intOf]; omega
  ·have i1 : ¬ (i : Int) < (ln : Int) := by omega
   have hii : i = ln := by omega
   subst hii
   have hfin : wencL r (l.take i) ks = wencL r l ks := by rw [List.take_of_length_le (by rw [(uh HL).2.1]; exact Nat.le_refl _)]
   have HF := hide hfin
   clear hfin
   go_wp2_with fail
   go_ret
   obtain ⟨hG, hO, hM'⟩ := uh HI
   rw [uh HF] at hO hM'
   have eM : N + (E.length + (wencL r l ks).length) = M := by omega
   rw [eM]
   refine ⟨vi, rfl, by simpa using hO, Grew.behind ?_ hG⟩
   first | exact uh HB1 | (rw [← hg]; exact uh HB1)
def Wrote (u w' : World) (e : Ending) (Z : List Int) : Prop := ∃ G c : Nat, e = .returned (.slice (some ⟨G, 0, none⟩) Z.length c) ∧ Row8 w' (some ⟨G, 0, none⟩) Z.length c Z ∧ Below u.heap.size u w' ∧ u.heap.size ≤ G ∧ G < w'.heap.size
theorem putInt_w (n : Int) (w : World) (h0 : -9223372036854775808 ≤ n) (h1 : n ≤ 9223372036854775807) : Calls Tryz.prog 123 #[.slice none 0 0, .int .i64 n] w fun e w' => Wrote w w' e (encF 9 (foldI n)) := by
 refine (putInt_nil n w h0 h1).mono ?_
 rintro e w' ⟨rfl, hr, hb⟩
 exact ⟨_, _, rfl, hr, hb, Nat.le_refl _, hr.block _ rfl (by have := encF_len 9 (foldI n); omega)⟩
theorem putText_w (s : ByteArray) (w : World) (hs : s.size ≤ 140737488351232) : Calls Tryz.prog 124 #[.slice none 0 0, .string s] w fun e w' => Wrote w w' e (tx s) := by
 refine (putText_nil s w hs).mono ?_
 rintro e w' ⟨g, c, rfl, hr, hb, hg⟩
 exact ⟨g, c, rfl, hr, hb, hg, hr.block _ rfl (by have := tx_pos s; omega)⟩
theorem lay0 (n : Int) (s : ByteArray) (l : List Vl) (ks : List ByteArray) (x : Value) (B base : Nat) (w : World) (sv : Value) (N : Nat) (xs : List Int) (hv : IsV w B (.mk 0 n s l ks) x) (hBb : B ≤ base) (hbw : base ≤ w.heap.size) (hown : w.ownsRow base 5 1 sv N (xs.map (Value.int .u8))) (hlim : N + (wenc (.mk 0 n s l ks)).length ≤ 140737489403904) :
  Calls Tryz.prog 95 #[sv, x] w fun e w' => ∃ sv', e = .returned sv' ∧ w'.ownsRow base 5 1 sv' (N + (wenc (.mk 0 n s l ks)).length) ((xs ++ wenc (.mk 0 n s l ks)).map (Value.int .u8)) ∧ Grew w w' sv sv' := by
 rw [wenc0] at hlim ⊢
 obtain ⟨k0, n0, s0, l0, ks0, al, ak, cl, ck, hv0, rfl⟩ := hv.shape
 cases hv0
 obtain ⟨m, hm⟩ : ∃ m, ks.length = m := ⟨_, rfl⟩
 obtain ⟨ln, hln⟩ : ∃ ln, l.length = ln := ⟨_, rfl⟩
 have hbn : (-9223372036854775808 ≤ n ∧ n ≤ 9223372036854775807) ∧ s.size ≤ 140737488351232 := by
  obtain ⟨_, _, _, h1, h2, V, hf, _⟩ := IsP.at hv
  exact ⟨hf.bn, hf.bs⟩
 rw [hm, hln] at hv
 rw [hm, hln]
 obtain ⟨w1, hw1⟩ : ∃ w1, w.alloc (.cells #[.int .i64 0, .int .i64 n, .string s, .slice al ln cl, .slice ak m ck] 25) = w1 := ⟨_, rfl⟩
 have BX := Box.mk' w (.int .i64 0) (.int .i64 n) (.string s) (.slice al ln cl) (.slice ak m ck)
 rw [hw1] at BX
 obtain ⟨g, hg⟩ : ∃ g, w.heap.size = g := ⟨_, rfl⟩
 have z1 := BX.size
 have z1g : w1.heap.size = g + 1 := by omega
 have hgn : ∀ q, g ≤ q → some q ≠ sv.ownBlock := fun q hq e => by have := (hown.lt q e.symm).2; omega
 have own1 : w1.ownsRow base 5 1 sv N (xs.map (Value.int .u8)) := by rw [← hw1]; exact hown.alloc _
 have R1 : w1.heap[g]? = some (.cells #[.int .i64 0, .int .i64 n, .string s, .slice al ln cl, .slice ak m ck] 25 (0, 0)) := by rw [← hg]; exact BX.row
 have HO1 := hide (And.intro own1 (And.intro BX.below (And.intro R1 (hv.mono (BX.below.mono (by omega))))))
 obtain ⟨c0, c1, c2, c3, c4⟩ := row_cell R1
 have hb1 : base ≤ w1.heap.size := by omega
 have HGN := hide hgn
 clear BX hv hown own1 z1 R1 hgn
 have tok1 : True := trivial
 have hl1 : N + 1 ≤ 140737489403904 := by simpa using hlim
 go_enter Tryz.func95, Tryz.ntmps95
 go_wp2_with (first | (at_builtin; have _t := tok1; refine wpl_app rfl (.tmp 9) (.tmp 10) rfl base N sv xs rfl ((uh HO1).1.alloc _) (some ⟨g + 1, 0, none⟩) 1 1 [0] rfl (by rw [← z1g]; exact row_one (heap_alloc_new w1 _) (by omega) (by omega)) hl1 (by simp; omega) ?_; intro v2 w2 H2; clear tok1))
 have HE : Hid (w2.ownsRow base 5 1 v2 (N + 1) ((xs ++ [0]).map (Value.int .u8)) ∧ Grew w1 w2 sv v2) := hide ⟨(uh H2).1, Grew.behind ((Below.refl _ _).alloc (Nat.le_refl _) _) (uh H2).2⟩
 go_ret
 refine ⟨_, rfl, by simpa using (uh HE).1, Grew.behind ?_ (uh HE).2⟩
 first | exact (uh HO1).2.1 | (rw [← hg]; exact (uh HO1).2.1)
theorem lay1 (n : Int) (s : ByteArray) (l : List Vl) (ks : List ByteArray) (x : Value) (B base : Nat) (w : World) (sv : Value) (N : Nat) (xs : List Int) (hn01 : n = 0 ∨ n = 1) (hv : IsV w B (.mk 1 n s l ks) x) (hBb : B ≤ base) (hbw : base ≤ w.heap.size) (hown : w.ownsRow base 5 1 sv N (xs.map (Value.int .u8))) (hlim : N + (wenc (.mk 1 n s l ks)).length ≤ 140737489403904) :
  Calls Tryz.prog 95 #[sv, x] w fun e w' => ∃ sv', e = .returned sv' ∧ w'.ownsRow base 5 1 sv' (N + (wenc (.mk 1 n s l ks)).length) ((xs ++ wenc (.mk 1 n s l ks)).map (Value.int .u8)) ∧ Grew w w' sv sv' := by
 rw [wenc1] at hlim ⊢
 obtain ⟨k0, n0, s0, l0, ks0, al, ak, cl, ck, hv0, rfl⟩ := hv.shape
 cases hv0
 obtain ⟨m, hm⟩ : ∃ m, ks.length = m := ⟨_, rfl⟩
 obtain ⟨ln, hln⟩ : ∃ ln, l.length = ln := ⟨_, rfl⟩
 have hbn : (-9223372036854775808 ≤ n ∧ n ≤ 9223372036854775807) ∧ s.size ≤ 140737488351232 := by
  obtain ⟨_, _, _, h1, h2, V, hf, _⟩ := IsP.at hv
  exact ⟨hf.bn, hf.bs⟩
 rw [hm, hln] at hv
 rw [hm, hln]
 obtain ⟨w1, hw1⟩ : ∃ w1, w.alloc (.cells #[.int .i64 1, .int .i64 n, .string s, .slice al ln cl, .slice ak m ck] 25) = w1 := ⟨_, rfl⟩
 have BX := Box.mk' w (.int .i64 1) (.int .i64 n) (.string s) (.slice al ln cl) (.slice ak m ck)
 rw [hw1] at BX
 obtain ⟨g, hg⟩ : ∃ g, w.heap.size = g := ⟨_, rfl⟩
 have z1 := BX.size
 have z1g : w1.heap.size = g + 1 := by omega
 have hgn : ∀ q, g ≤ q → some q ≠ sv.ownBlock := fun q hq e => by have := (hown.lt q e.symm).2; omega
 have own1 : w1.ownsRow base 5 1 sv N (xs.map (Value.int .u8)) := by rw [← hw1]; exact hown.alloc _
 have R1 : w1.heap[g]? = some (.cells #[.int .i64 1, .int .i64 n, .string s, .slice al ln cl, .slice ak m ck] 25 (0, 0)) := by rw [← hg]; exact BX.row
 have HO1 := hide (And.intro own1 (And.intro BX.below (And.intro R1 (hv.mono (BX.below.mono (by omega))))))
 obtain ⟨c0, c1, c2, c3, c4⟩ := row_cell R1
 have hb1 : base ≤ w1.heap.size := by omega
 have HGN := hide hgn
 clear BX hv hown own1 z1 R1 hgn
 have tok1 : True := trivial
 have hl1 : N + 1 ≤ 140737489403904 := by simpa using hlim
 obtain ⟨y, hy⟩ : ∃ y : Int, 1 + n = y := ⟨_, rfl⟩
 have hyb : 0 ≤ y ∧ y ≤ 255 := by omega
 have u1 : IntKind.u8.wrap n = n := by rw [IntKind.wrap_u8]; omega
 have u2 : IntKind.u8.wrap y = y := by rw [IntKind.wrap_u8]; omega
 have HN := hide (And.intro hn01 hyb)
 rw [hy]
 clear hn01 hyb
 go_enter Tryz.func95, Tryz.ntmps95
 go_wp2_with (first | (at_builtin; have _t := tok1; refine wpl_app rfl (.tmp 14) (.tmp 19) rfl base N sv xs rfl ((uh HO1).1.alloc _) (some ⟨g + 1, 0, none⟩) 1 1 [y] rfl (by rw [← z1g]; exact row_one (heap_alloc_new w1 _) (uh HN).2.1 (uh HN).2.2) hl1 (by simp; omega) ?_; intro v2 w2 H2; clear tok1))
 have HE : Hid (w2.ownsRow base 5 1 v2 (N + 1) ((xs ++ [y]).map (Value.int .u8)) ∧ Grew w1 w2 sv v2) := hide ⟨(uh H2).1, Grew.behind ((Below.refl _ _).alloc (Nat.le_refl _) _) (uh H2).2⟩
 go_ret
 refine ⟨_, rfl, by simpa using (uh HE).1, Grew.behind ?_ (uh HE).2⟩
 first | exact (uh HO1).2.1 | (rw [← hg]; exact (uh HO1).2.1)
theorem lay2 (n : Int) (s : ByteArray) (l : List Vl) (ks : List ByteArray) (x : Value) (B base : Nat) (w : World) (sv : Value) (N : Nat) (xs : List Int) (hv : IsV w B (.mk 2 n s l ks) x) (hBb : B ≤ base) (hbw : base ≤ w.heap.size) (hown : w.ownsRow base 5 1 sv N (xs.map (Value.int .u8))) (hlim : N + (wenc (.mk 2 n s l ks)).length ≤ 140737489403904) :
  Calls Tryz.prog 95 #[sv, x] w fun e w' => ∃ sv', e = .returned sv' ∧ w'.ownsRow base 5 1 sv' (N + (wenc (.mk 2 n s l ks)).length) ((xs ++ wenc (.mk 2 n s l ks)).map (Value.int .u8)) ∧ Grew w w' sv sv' := by
 rw [wenc2] at hlim ⊢
 obtain ⟨k0, n0, s0, l0, ks0, al, ak, cl, ck, hv0, rfl⟩ := hv.shape
 cases hv0
 obtain ⟨m, hm⟩ : ∃ m, ks.length = m := ⟨_, rfl⟩
 obtain ⟨ln, hln⟩ : ∃ ln, l.length = ln := ⟨_, rfl⟩
 have hbn : (-9223372036854775808 ≤ n ∧ n ≤ 9223372036854775807) ∧ s.size ≤ 140737488351232 := by
  obtain ⟨_, _, _, h1, h2, V, hf, _⟩ := IsP.at hv
  exact ⟨hf.bn, hf.bs⟩
 rw [hm, hln] at hv
 rw [hm, hln]
 obtain ⟨w1, hw1⟩ : ∃ w1, w.alloc (.cells #[.int .i64 2, .int .i64 n, .string s, .slice al ln cl, .slice ak m ck] 25) = w1 := ⟨_, rfl⟩
 have BX := Box.mk' w (.int .i64 2) (.int .i64 n) (.string s) (.slice al ln cl) (.slice ak m ck)
 rw [hw1] at BX
 obtain ⟨g, hg⟩ : ∃ g, w.heap.size = g := ⟨_, rfl⟩
 have z1 := BX.size
 have z1g : w1.heap.size = g + 1 := by omega
 have hgn : ∀ q, g ≤ q → some q ≠ sv.ownBlock := fun q hq e => by have := (hown.lt q e.symm).2; omega
 have own1 : w1.ownsRow base 5 1 sv N (xs.map (Value.int .u8)) := by rw [← hw1]; exact hown.alloc _
 have R1 : w1.heap[g]? = some (.cells #[.int .i64 2, .int .i64 n, .string s, .slice al ln cl, .slice ak m ck] 25 (0, 0)) := by rw [← hg]; exact BX.row
 have HO1 := hide (And.intro own1 (And.intro BX.below (And.intro R1 (hv.mono (BX.below.mono (by omega))))))
 obtain ⟨c0, c1, c2, c3, c4⟩ := row_cell R1
 have hb1 : base ≤ w1.heap.size := by omega
 have HGN := hide hgn
 clear BX hv hown own1 z1 R1 hgn
 obtain ⟨Z, hZ⟩ : ∃ Z, encF 9 (foldI n) = Z := ⟨_, rfl⟩
 have CC := fun u => hide (putInt_w n u hbn.1.1 hbn.1.2)
 rw [hZ] at CC
 rw [hZ] at hlim
 rw [hZ]
 have hl1 : N + 1 ≤ 140737489403904 := by rw [List.length_cons] at hlim; omega
 have hl2 : N + 1 + Z.length ≤ 140737489403904 := by rw [List.length_cons] at hlim; omega
 clear hlim hZ
 go_enter Tryz.func95, Tryz.ntmps95
 go_upto_region 7 with fail
 refine till_begin (S := fun w' => w'.cell? ⟨g, 1, none⟩ = some (.int .i64 n)) 7 (by kernel_rfl) ?_
 obtain ⟨wd, hwd⟩ : ∃ wd, w1.drew = wd := ⟨_, rfl⟩
 have HD : Hid (Below w1.heap.size w1 wd) := hide (by rw [← hwd]; exact (Below.refl _ _).drew)
 have zd : wd.heap.size = g + 1 := by rw [← hwd]; exact z1g
 have HS1 := cell_later (uh HD) c1
 rw [hwd]
 clear hwd c0 c1 c2 c3 c4
 refine till_take 0 (v := sv) (some 23) rfl rfl rfl (by kernel_rfl) (by kernel_rfl) (by kernel_rfl) (by kernel_rfl) (fun _ _ _ h => h) (Or.inl ⟨by rfl, fun u hu => by go_simp⟩) HS1 ?_
 try simp only [Act.put, setX]
 refine till_take 3 (v := .pointer (some ⟨g, 1, none⟩)) (some 26) rfl rfl rfl (by kernel_rfl) (by kernel_rfl) (by kernel_rfl) (by kernel_rfl) (fun _ _ _ h => h) (Or.inl ⟨by rfl, fun u hu => by go_simp⟩) HS1 ?_
 try simp only [Act.put, setX]
 refine till_take 4 (v := .int .i64 n) (some 27) rfl rfl rfl (by kernel_rfl) (by kernel_rfl) (by kernel_rfl) (by kernel_rfl) (fun _ _ _ h => h) (Or.inl ⟨by rfl, fun u hu => by go_simp⟩) HS1 ?_
 try simp only [Act.put, setX]
 refine till_one 1 (by kernel_rfl) rfl (fun K hK => ?_)
 go_simp
 obtain ⟨wb, hwb⟩ : ∃ wb, wd.alloc (.cells #[.int .u8 3] 5) = wb := ⟨_, rfl⟩
 have zb : wb.heap.size = g + 1 + 1 := by rw [← hwb, ← zd]; simp
 have Hb : Hid (Below wd.heap.size wd wb ∧ wb.heap[g + 1]? = some (.cells #[.int .u8 3] 5 (0, 0))) := hide (by rw [← hwb, ← zd]; exact ⟨(Below.refl _ _).alloc (Nat.le_refl _) _, heap_alloc_new _ _⟩)
 rw [hwb]
 clear hwb
 have HSb := cell_later (uh Hb).1 HS1
 refine hK.out _ _ (Or.inr HSb) ?_
 clear hK K
 try simp only [Act.put, setX]
 refine till_one 2 (by kernel_rfl) rfl (fun K hK => ?_)
 refine step_app (by rfl) _ _ (by rfl) base N sv xs (by rfl) (own_below (own_below (uh HO1).1 (uh HD)) (uh Hb).1) (some ⟨g + 1, 0, none⟩) 1 1 [3] (by rfl) (row_one (uh Hb).2 (by omega) (by omega)) hl1 (by omega) ?_
 intro v2 wa H2
 change K (Act.put _ (some 25) _) wa
 have za := (uh H2).2.grown.size
 have HSa : wa.cell? ⟨g, 1, none⟩ = some (.int .i64 n) := (World.cell?_of_block ((uh H2).2.far (b := g) (by omega) (uh HGN g (Nat.le_refl _)))).trans HSb
 refine hK.out _ _ (Or.inr HSa) ?_
 clear hK K
 try simp only [Act.put, setX]
 refine till_one 5 (by kernel_rfl) rfl (fun K hK => ?_)
 go_simp
 refine (uh (CC wa)).mono ?_
 rintro e wc ⟨G, cc, rfl, r5, b5, hG1, hG2⟩
 have zc := b5.size
 have H5 := hide (And.intro r5 b5)
 have HSc := cell_later b5 HSa
 clear r5 b5
 go_wp2_with fail
 refine hK.out _ _ (Or.inr HSc) ?_
 clear hK K
 try simp only [Act.put, setX]
 refine till_one 6 (by kernel_rfl) rfl (fun K hK => ?_)
 refine step_app (by rfl) _ _ (by rfl) base (N + 1) v2 (xs ++ [3]) (by rfl) (own_below (uh H2).1 (uh H5).2) (some ⟨G, 0, none⟩) Z.length cc Z (by rfl) ((uh H5).1) hl2 (by omega) ?_
 intro v6 we H6
 change K (Act.put _ (some 29) _) we
 have hv2 : ∀ q, v2.ownBlock = some q → q ≠ g := fun q e hq => by
  subst hq
  rcases (uh H2).2.row _ e with h | h
  ·exact uh HGN _ (Nat.le_refl _) h.symm
  ·omega
 have HSe : we.cell? ⟨g, 1, none⟩ = some (.int .i64 n) := (World.cell?_of_block ((uh H6).2.far (b := g) (by omega) (fun e => hv2 g e.symm rfl))).trans HSc
 refine hK.out _ _ (Or.inr HSe) ?_
 clear hK K hv2
 try simp only [Act.put, setX]
 refine till_one 7 (by kernel_rfl) rfl (fun K hK => ?_)
 go_simp
 refine hK.out _ _ (Or.inl rfl) ?_
 clear hK K
 try simp only [Act.put, setX]
 refine till_done (by kernel_rfl) ?_ _
 have HE : Hid (we.ownsRow base 5 1 v6 (N + 1 + Z.length) ((xs ++ [3] ++ Z).map (Value.int .u8)) ∧ Grew w1 we sv v6) := hide ⟨(uh H6).1, Grew.behind (uh HD) (Grew.behind (uh Hb).1 ((uh H2).2.trans (Grew.behind (uh H5).2 (uh H6).2)))⟩
 go_wp2_with fail
 go_ret
 refine ⟨_, rfl, ?_, Grew.behind ?_ (uh HE).2⟩
 ·have e1 : N + (Z.length + 1) = N + 1 + Z.length := by omega
  first
   | (rw [e1]; simpa [List.append_assoc] using (uh HE).1)
   | (simpa [List.append_assoc, Nat.add_assoc, Nat.add_comm 1] using (uh HE).1)
 ·first | exact (uh HO1).2.1 | (rw [← hg]; exact (uh HO1).2.1)
theorem lay3 (n : Int) (s : ByteArray) (l : List Vl) (ks : List ByteArray) (x : Value) (B base : Nat) (w : World) (sv : Value) (N : Nat) (xs : List Int) (hv : IsV w B (.mk 3 n s l ks) x) (hBb : B ≤ base) (hbw : base ≤ w.heap.size) (hown : w.ownsRow base 5 1 sv N (xs.map (Value.int .u8))) (hlim : N + (wenc (.mk 3 n s l ks)).length ≤ 140737489403904) :
  Calls Tryz.prog 95 #[sv, x] w fun e w' => ∃ sv', e = .returned sv' ∧ w'.ownsRow base 5 1 sv' (N + (wenc (.mk 3 n s l ks)).length) ((xs ++ wenc (.mk 3 n s l ks)).map (Value.int .u8)) ∧ Grew w w' sv sv' := by
 rw [wenc3] at hlim ⊢
 obtain ⟨k0, n0, s0, l0, ks0, al, ak, cl, ck, hv0, rfl⟩ := hv.shape
 cases hv0
 obtain ⟨m, hm⟩ : ∃ m, ks.length = m := ⟨_, rfl⟩
 obtain ⟨ln, hln⟩ : ∃ ln, l.length = ln := ⟨_, rfl⟩
 have hbn : (-9223372036854775808 ≤ n ∧ n ≤ 9223372036854775807) ∧ s.size ≤ 140737488351232 := by
  obtain ⟨_, _, _, h1, h2, V, hf, _⟩ := IsP.at hv
  exact ⟨hf.bn, hf.bs⟩
 rw [hm, hln] at hv
 rw [hm, hln]
 obtain ⟨w1, hw1⟩ : ∃ w1, w.alloc (.cells #[.int .i64 3, .int .i64 n, .string s, .slice al ln cl, .slice ak m ck] 25) = w1 := ⟨_, rfl⟩
 have BX := Box.mk' w (.int .i64 3) (.int .i64 n) (.string s) (.slice al ln cl) (.slice ak m ck)
 rw [hw1] at BX
 obtain ⟨g, hg⟩ : ∃ g, w.heap.size = g := ⟨_, rfl⟩
 have z1 := BX.size
 have z1g : w1.heap.size = g + 1 := by omega
 have hgn : ∀ q, g ≤ q → some q ≠ sv.ownBlock := fun q hq e => by have := (hown.lt q e.symm).2; omega
 have own1 : w1.ownsRow base 5 1 sv N (xs.map (Value.int .u8)) := by rw [← hw1]; exact hown.alloc _
 have R1 : w1.heap[g]? = some (.cells #[.int .i64 3, .int .i64 n, .string s, .slice al ln cl, .slice ak m ck] 25 (0, 0)) := by rw [← hg]; exact BX.row
 have HO1 := hide (And.intro own1 (And.intro BX.below (And.intro R1 (hv.mono (BX.below.mono (by omega))))))
 obtain ⟨c0, c1, c2, c3, c4⟩ := row_cell R1
 have hb1 : base ≤ w1.heap.size := by omega
 have HGN := hide hgn
 clear BX hv hown own1 z1 R1 hgn
 obtain ⟨Z, hZ⟩ : ∃ Z, tx s = Z := ⟨_, rfl⟩
 have CC := fun u => hide (putText_w s u hbn.2)
 rw [hZ] at CC
 rw [hZ] at hlim
 rw [hZ]
 have hl1 : N + 1 ≤ 140737489403904 := by rw [List.length_cons] at hlim; omega
 have hl2 : N + 1 + Z.length ≤ 140737489403904 := by rw [List.length_cons] at hlim; omega
 clear hlim hZ
 go_enter Tryz.func95, Tryz.ntmps95
 go_upto_region 9 with fail
 refine till_begin (S := fun w' => w'.cell? ⟨g, 2, none⟩ = some (.string s)) 7 (by kernel_rfl) ?_
 obtain ⟨wd, hwd⟩ : ∃ wd, w1.drew = wd := ⟨_, rfl⟩
 have HD : Hid (Below w1.heap.size w1 wd) := hide (by rw [← hwd]; exact (Below.refl _ _).drew)
 have zd : wd.heap.size = g + 1 := by rw [← hwd]; exact z1g
 have HS1 := cell_later (uh HD) c2
 rw [hwd]
 clear hwd c0 c1 c2 c3 c4
 refine till_take 0 (v := sv) (some 32) rfl rfl rfl (by kernel_rfl) (by kernel_rfl) (by kernel_rfl) (by kernel_rfl) (fun _ _ _ h => h) (Or.inl ⟨by rfl, fun u hu => by go_simp⟩) HS1 ?_
 try simp only [Act.put, setX]
 refine till_take 3 (v := .pointer (some ⟨g, 2, none⟩)) (some 35) rfl rfl rfl (by kernel_rfl) (by kernel_rfl) (by kernel_rfl) (by kernel_rfl) (fun _ _ _ h => h) (Or.inl ⟨by rfl, fun u hu => by go_simp⟩) HS1 ?_
 try simp only [Act.put, setX]
 refine till_take 4 (v := .string s) (some 36) rfl rfl rfl (by kernel_rfl) (by kernel_rfl) (by kernel_rfl) (by kernel_rfl) (fun _ _ _ h => h) (Or.inl ⟨by rfl, fun u hu => by go_simp⟩) HS1 ?_
 try simp only [Act.put, setX]
 refine till_one 1 (by kernel_rfl) rfl (fun K hK => ?_)
 go_simp
 obtain ⟨wb, hwb⟩ : ∃ wb, wd.alloc (.cells #[.int .u8 4] 5) = wb := ⟨_, rfl⟩
 have zb : wb.heap.size = g + 1 + 1 := by rw [← hwb, ← zd]; simp
 have Hb : Hid (Below wd.heap.size wd wb ∧ wb.heap[g + 1]? = some (.cells #[.int .u8 4] 5 (0, 0))) := hide (by rw [← hwb, ← zd]; exact ⟨(Below.refl _ _).alloc (Nat.le_refl _) _, heap_alloc_new _ _⟩)
 rw [hwb]
 clear hwb
 have HSb := cell_later (uh Hb).1 HS1
 refine hK.out _ _ (Or.inr HSb) ?_
 clear hK K
 try simp only [Act.put, setX]
 refine till_one 2 (by kernel_rfl) rfl (fun K hK => ?_)
 refine step_app (by rfl) _ _ (by rfl) base N sv xs (by rfl) (own_below (own_below (uh HO1).1 (uh HD)) (uh Hb).1) (some ⟨g + 1, 0, none⟩) 1 1 [4] (by rfl) (row_one (uh Hb).2 (by omega) (by omega)) hl1 (by omega) ?_
 intro v2 wa H2
 change K (Act.put _ (some 34) _) wa
 have za := (uh H2).2.grown.size
 have HSa : wa.cell? ⟨g, 2, none⟩ = some (.string s) := (World.cell?_of_block ((uh H2).2.far (b := g) (by omega) (uh HGN g (Nat.le_refl _)))).trans HSb
 refine hK.out _ _ (Or.inr HSa) ?_
 clear hK K
 try simp only [Act.put, setX]
 refine till_one 5 (by kernel_rfl) rfl (fun K hK => ?_)
 go_simp
 refine (uh (CC wa)).mono ?_
 rintro e wc ⟨G, cc, rfl, r5, b5, hG1, hG2⟩
 have zc := b5.size
 have H5 := hide (And.intro r5 b5)
 have HSc := cell_later b5 HSa
 clear r5 b5
 go_wp2_with fail
 refine hK.out _ _ (Or.inr HSc) ?_
 clear hK K
 try simp only [Act.put, setX]
 refine till_one 6 (by kernel_rfl) rfl (fun K hK => ?_)
 refine step_app (by rfl) _ _ (by rfl) base (N + 1) v2 (xs ++ [4]) (by rfl) (own_below (uh H2).1 (uh H5).2) (some ⟨G, 0, none⟩) Z.length cc Z (by rfl) ((uh H5).1) hl2 (by omega) ?_
 intro v6 we H6
 change K (Act.put _ (some 38) _) we
 have hv2 : ∀ q, v2.ownBlock = some q → q ≠ g := fun q e hq => by
  subst hq
  rcases (uh H2).2.row _ e with h | h
  ·exact uh HGN _ (Nat.le_refl _) h.symm
  ·omega
 have HSe : we.cell? ⟨g, 2, none⟩ = some (.string s) := (World.cell?_of_block ((uh H6).2.far (b := g) (by omega) (fun e => hv2 g e.symm rfl))).trans HSc
 refine hK.out _ _ (Or.inr HSe) ?_
 clear hK K hv2
 try simp only [Act.put, setX]
 refine till_one 7 (by kernel_rfl) rfl (fun K hK => ?_)
 go_simp
 refine hK.out _ _ (Or.inl rfl) ?_
 clear hK K
 try simp only [Act.put, setX]
 refine till_done (by kernel_rfl) ?_ _
 have HE : Hid (we.ownsRow base 5 1 v6 (N + 1 + Z.length) ((xs ++ [4] ++ Z).map (Value.int .u8)) ∧ Grew w1 we sv v6) := hide ⟨(uh H6).1, Grew.behind (uh HD) (Grew.behind (uh Hb).1 ((uh H2).2.trans (Grew.behind (uh H5).2 (uh H6).2)))⟩
 go_wp2_with fail
 go_ret
 refine ⟨_, rfl, ?_, Grew.behind ?_ (uh HE).2⟩
 ·have e1 : N + (Z.length + 1) = N + 1 + Z.length := by omega
  first
   | (rw [e1]; simpa [List.append_assoc] using (uh HE).1)
   | (simpa [List.append_assoc, Nat.add_assoc, Nat.add_comm 1] using (uh HE).1)
 ·first | exact (uh HO1).2.1 | (rw [← hg]; exact (uh HO1).2.1)
end Go.Proofs.YtgkmdjmigehmeaaGreatDoor
