/-
  The walk of the document's Diff; conditions: the form's own reach.
-/
import Derived.Test.YtjhnbopejnpbeaaA37
import Derived.Test.YtjhnbopejnpbeaaA41
import Derived.Test.YtjhnbopejnpbeaaA25
import Derived.Test.YtjhnbopejnpbeaaA27
set_option linter.unusedVariables false
set_option linter.unusedSimpArgs false
namespace Go.Proofs.Ytjhnbopejnpbeaa
open Go.RowKit Go.Shelf
set_option linter.unusedVariables false
set_option linter.unusedSimpArgs false

theorem below_drew_to2 {B : Nat} {a w : World} (h : Below B a w) : Below B a w.drew := ⟨h.os, h.tape, h.output, h.size, h.block⟩
theorem below_drewD {B : Nat} {a w : World} (h : Below B a w) (q : Nat) : Below B a (w.drewN q) := ⟨h.os, h.tape, h.output, h.size, h.block⟩

theorem dfL_more : ∀ (f : Nat) (a b : List En), a.length + b.length ≤ f → dfL (f + 1) a b = dfL f a b
  | 0, [], [], _ => rfl
  | 0, x :: r, b, h => by simp at h
  | 0, [], y :: s, h => by simp at h
  | f + 1, [], [], _ => by rw [dfL_nil, dfL_nil]
  | f + 1, x :: r, [], h => by rw [dfL_left, dfL_left, dfL_more f r [] (by simp at h ⊢; omega)]
  | f + 1, [], y :: s, h => by rw [dfL_right, dfL_right, dfL_more f [] s (by simp at h ⊢; omega)]
  | f + 1, x :: r, y :: s, h => by
    simp only [List.length_cons] at h
    rw [dfL_cons, dfL_cons, dfL_more f (x :: r) s (by simp only [List.length_cons]; omega), dfL_more f r (y :: s) (by simp only [List.length_cons]; omega), dfL_more f r s (by omega)]

theorem drop_at {α : Type} {l : List α} {i : Nat} {x : α} (h : l[i]? = some x) : l.drop i = x :: l.drop (i + 1) := by
  obtain ⟨hl, rfl⟩ := List.getElem?_eq_some_iff.1 h
  exact List.drop_eq_getElem_cons hl

theorem df_gone {es fs : List En} {i k : Nat} {xk : ByteArray} {xv : Vl} (hx : es[i]? = some (xk, xv)) (hkl : k ≤ fs.length) (hk : fs.length = k ∨ ∃ yk yv, fs[k]? = some (yk, yv) ∧ ltK xk yk = true) :
    dfL (es.length + fs.length - (i + k)) (es.drop i) (fs.drop k) = (xk, true, vl0) :: dfL (es.length + fs.length - (i + 1 + k)) (es.drop (i + 1)) (fs.drop k) := by
  have hl := (List.getElem?_eq_some_iff.1 hx).1
  rw [show es.length + fs.length - (i + k) = (es.length + fs.length - (i + 1 + k)) + 1 by omega, drop_at hx]
  rcases hk with hk | ⟨yk, yv, hy, h⟩
  · rw [show fs.drop k = [] from List.drop_eq_nil_of_le (by omega), dfL_left]
  · rw [drop_at hy, dfL_cons, if_neg (by rw [ltK_asym h]; simp), if_pos h]

theorem df_put {es fs : List En} {i k : Nat} {yk : ByteArray} {yv : Vl} (hy : fs[k]? = some (yk, yv)) (hil : i ≤ es.length) (hi : es.length = i ∨ ∃ xk xv, es[i]? = some (xk, xv) ∧ ltK yk xk = true) :
    dfL (es.length + fs.length - (i + k)) (es.drop i) (fs.drop k) = (yk, false, yv) :: dfL (es.length + fs.length - (i + (k + 1))) (es.drop i) (fs.drop (k + 1)) := by
  have hl := (List.getElem?_eq_some_iff.1 hy).1
  rw [show es.length + fs.length - (i + k) = (es.length + fs.length - (i + (k + 1))) + 1 by omega, drop_at hy]
  rcases hi with hi | ⟨xk, xv, hx, h⟩
  · rw [show es.drop i = [] from List.drop_eq_nil_of_le (by omega), dfL_right]
  · rw [drop_at hx, dfL_cons, if_pos h]

theorem df_both {es fs : List En} {i k : Nat} {xk yk : ByteArray} {xv yv : Vl} (hx : es[i]? = some (xk, xv)) (hy : fs[k]? = some (yk, yv)) (h1 : ltK xk yk = false) (h2 : ltK yk xk = false) :
    dfL (es.length + fs.length - (i + k)) (es.drop i) (fs.drop k) = (if ord0 xv yv = 0 then [] else [(yk, false, yv)]) ++ dfL (es.length + fs.length - (i + 1 + (k + 1))) (es.drop (i + 1)) (fs.drop (k + 1)) := by
  have hl := (List.getElem?_eq_some_iff.1 hx).1
  have hl' := (List.getElem?_eq_some_iff.1 hy).1
  have hnn : dfL (es.length + fs.length - (i + 1 + (k + 1)) + 1) (es.drop (i + 1)) (fs.drop (k + 1)) = dfL (es.length + fs.length - (i + 1 + (k + 1))) (es.drop (i + 1)) (fs.drop (k + 1)) := dfL_more _ _ _ (by rw [List.length_drop, List.length_drop]; omega)
  rw [show es.length + fs.length - (i + k) = (es.length + fs.length - (i + 1 + (k + 1)) + 1) + 1 by omega, drop_at hx, drop_at hy, dfL_cons, if_neg (by rw [h2]; simp), if_neg (by rw [h1]; simp), chE_two, hnn]

/-- what is so while the document's Diff goes through the keys -/
def RdI (w W : World) (es fs : List En) (DF : List Ch) (sv : Value) (q i k : Nat) : Prop := ∃ cs, ChO W w.heap.size sv cs ∧ cs.length = q ∧ q ≤ i + k ∧ cs.map chOf ++ dfL (es.length + fs.length - (i + k)) (es.drop i) (fs.drop k) = DF ∧ Below w.heap.size w W

set_option maxRecDepth 100000 in
set_option maxHeartbeats 16000000 in
theorem diffR_right (es fs : List En) (al bl : Option Addr) (n cl m ck B : Nat) (w : World) (hn : es.length = n) (hm : fs.length = m) (h : IsE w (fun b => b < B) es al cl) (h' : IsE w (fun b => b < B) fs bl ck) (hB : B ≤ w.heap.size) (hR : rightE es = true) (hR' : rightE fs = true) :
    Calls Try.prog 9 #[.slice al n cl, .slice bl m ck] w fun e w' => ∃ sv cs, e = .returned (.tuple #[sv, .int .i64 0]) ∧ ChO w' w.heap.size sv cs ∧ cs.map chOf = dfL (n + m) es fs ∧ Below w.heap.size w w' := by
  have hn128 := (right_len hR).1
  have hm128 := (right_len hR').1
  rw [hn] at hn128
  rw [hm] at hm128
  have C1 := rightRs_any es al n cl B w hn h hB
  rw [hR] at C1
  have CR' : Hid (∀ u, Below w.heap.size w u → Calls Try.prog 26 #[.slice bl m ck] u fun e w' => e = .returned (.bool true) ∧ Below u.heap.size u w') := hide (fun u hu => by
    have := rightRs_any fs bl m ck B u hm (h'.later (hu.mono hB)) (Nat.le_trans hB hu.size)
    rw [hR'] at this
    exact this)
  have HC1 := hide C1
  have HE : Hid (∀ u, Below w.heap.size w u → IsE u (fun b => b < B) es al cl) := hide (fun u hu => h.later (hu.mono hB))
  have HF : Hid (∀ u, Below w.heap.size w u → IsE u (fun b => b < B) fs bl ck) := hide (fun u hu => h'.later (hu.mono hB))
  have HRE : Hid (∀ e ∈ es, entB e = true) := hide (right_len hR).2
  have HRF : Hid (∀ e ∈ fs, entB e = true) := hide (right_len hR').2
  have HN := hide (And.intro hn hm)
  have HB := hide hB
  obtain ⟨DF, hDF⟩ : ∃ DF, dfL (n + m) es fs = DF := ⟨_, rfl⟩
  have HD0 : Hid (dfL (es.length + fs.length - (0 + 0)) (es.drop 0) (fs.drop 0) = DF) := hide (by rw [← hDF, hn, hm]; rfl)
  rw [hDF]
  clear h h' hR hR' C1 hn hm hB hDF
  go_enter Try.func9, Try.ntmps9
  go_wp2_with fail
  refine (unhide HC1).mono ?_
  rintro e u1 ⟨rfl, b1⟩
  have B1 := hide b1
  have C2 := hide (unhide CR' u1 b1)
  clear b1 HC1 CR'
  go_wp2_with fail
  refine (unhide C2).mono ?_
  rintro e u2 ⟨rfl, b2⟩
  have B2 : Hid (Below w.heap.size w u2) := hide ((unhide B1).trans (b2.mono (unhide B1).size))
  clear b2 C2 B1
  go_wp2_with fail
  go_loopw [8, 9, 10] (fun y x z wr => ∃ (i k : Nat) (so : Option Addr) (q sc : Nat), y = .slice so q sc ∧ x = .int .i64 (i : Int) ∧ z = .int .i64 (k : Int) ∧ Hid (i ≤ n ∧ k ≤ m) ∧ Hid (RdI w wr es fs DF (.slice so q sc) q i k)) (fun _ x z _ => n + m - ((intOf x).toNat + (intOf z).toNat))
  case atStart => exact ⟨0, 0, none, 0, 0, rfl, rfl, rfl, hide ⟨by omega, by omega⟩, hide ⟨[], ChO.nil _ _, rfl, by omega, by rw [List.map_nil, List.nil_append]; exact unhide HD0, unhide B2⟩⟩
  case round =>
    obtain ⟨i, k, so, q, sc, rfl, rfl, rfl, HI1, HX⟩ := hrel
    obtain ⟨cs, h2, hq, hqi, h3, h5⟩ := unhide HX
    have hi0 := (unhide HI1).1
    have hk0 := (unhide HI1).2
    have xe : i < n → ∃ xk xv, es[i]? = some (xk, xv) := fun hl => ⟨_, _, List.getElem?_eq_getElem (by have := unhide HN; omega)⟩
    have ye : k < m → ∃ yk yv, fs[k]? = some (yk, yv) := fun hl => ⟨_, _, List.getElem?_eq_getElem (by have := unhide HN; omega)⟩
    by_cases hik : i < n
    · obtain ⟨xk, xv, hx⟩ := xe hik
      obtain ⟨a, x0, x1, x2, x3, x6, x4, x7, x5, x8, rfl, hab, _, hcx, hpx⟩ := (unhide HE wr h5).elem i _ hx
      dsimp only at hcx hpx
      have xc0 : wr.cell? (a.add (i * 6)) = some (.string xk) := hcx 0 _ rfl
      have xc1 : wr.cell? ⟨(a.add (i * 6)).block, (a.add (i * 6)).off + 1, none⟩ = some (.int .i64 x0) := hcx 1 _ rfl
      have xc2 : wr.cell? ⟨(a.add (i * 6)).block, (a.add (i * 6)).off + 2, none⟩ = some (.int .i64 x1) := hcx 2 _ rfl
      have xc3 : wr.cell? ⟨(a.add (i * 6)).block, (a.add (i * 6)).off + 3, none⟩ = some (.string x2) := hcx 3 _ rfl
      have xc4 : wr.cell? ⟨(a.add (i * 6)).block, (a.add (i * 6)).off + 4, none⟩ = some (.slice x3 x4 x5) := hcx 4 _ rfl
      have xc5 : wr.cell? ⟨(a.add (i * 6)).block, (a.add (i * 6)).off + 5, none⟩ = some (.slice x6 x7 x8) := hcx 5 _ rfl
      have HVX : Hid (IsV wr B xv (.agg #[.int .i64 x0, .int .i64 x1, .string x2, .slice x3 x4 x5, .slice x6 x7 x8])) := hide hpx
      clear hcx hpx
      have j1 : (i : Int) < (n : Int) := by omega
      by_cases hkm : k < m
      · obtain ⟨yk, yv, hy⟩ := ye hkm
        obtain ⟨b, y0, y1, y2, y3, y6, y4, y7, y5, y8, rfl, hbb, _, hcy, hpy⟩ := (unhide HF wr h5).elem k _ hy
        dsimp only at hcy hpy
        have yc0 : wr.cell? (b.add (k * 6)) = some (.string yk) := hcy 0 _ rfl
        have yc1 : wr.cell? ⟨(b.add (k * 6)).block, (b.add (k * 6)).off + 1, none⟩ = some (.int .i64 y0) := hcy 1 _ rfl
        have yc2 : wr.cell? ⟨(b.add (k * 6)).block, (b.add (k * 6)).off + 2, none⟩ = some (.int .i64 y1) := hcy 2 _ rfl
        have yc3 : wr.cell? ⟨(b.add (k * 6)).block, (b.add (k * 6)).off + 3, none⟩ = some (.string y2) := hcy 3 _ rfl
        have yc4 : wr.cell? ⟨(b.add (k * 6)).block, (b.add (k * 6)).off + 4, none⟩ = some (.slice y3 y4 y5) := hcy 4 _ rfl
        have yc5 : wr.cell? ⟨(b.add (k * 6)).block, (b.add (k * 6)).off + 5, none⟩ = some (.slice y6 y7 y8) := hcy 5 _ rfl
        have HVY : Hid (IsV wr B yv (.agg #[.int .i64 y0, .int .i64 y1, .string y2, .slice y3 y4 y5, .slice y6 y7 y8])) := hide hpy
        have HYR : Hid (1 ≤ yk.size ∧ yk.size ≤ 32 ∧ rightB yv = true) := hide (by have hent := unhide HRF _ (List.mem_of_getElem? hy); unfold entB at hent; simp only [Bool.and_eq_true, decide_eq_true_eq] at hent; exact ⟨hent.1.1, hent.1.2, hent.2⟩)
        clear hcy hpy
        have j2 : (k : Int) < (m : Int) := by omega
        have ekb : ((k : Int) == (m : Int)) = false := beq_eq_false_iff_ne.2 (by omega)
        have eib : ((i : Int) == (n : Int)) = false := beq_eq_false_iff_ne.2 (by omega)
        cases hL1 : ltK xk yk with
        | true =>
          have hLa : Op.bytesLess xk.toList yk.toList = true := hL1
          have HDF : Hid (dfL (es.length + fs.length - (i + k)) (es.drop i) (fs.drop k) = (xk, true, vl0) :: dfL (es.length + fs.length - (i + 1 + k)) (es.drop (i + 1)) (fs.drop k)) := hide (df_gone hx (by have := unhide HN; omega) (Or.inr ⟨yk, yv, hy, hL1⟩))
          clear xe ye hx hy hL1
          go_upto_region 13 with fail
          go_cut [62] from 21 to 131 (fun r wx => r = .bool true ∧ ∃ q, wx = wr.drewN q)
          case first =>
            go_quiet (fail)
            go_wp2_with fail
            go_meet
            exact ⟨rfl, _, rfl⟩
          case rest =>
            obtain ⟨rfl, q1, hwc⟩ := hcut
            have HWr : Hid (Below wr.heap.size wr wc) := hide (by rw [hwc]; exact below_drewD (Below.refl _ _) _)
            clear hwc
            obtain ⟨W, hWW⟩ : ∃ W, wc = W := ⟨_, rfl⟩
            rw [hWW] at HWr
            rw [hWW]
            clear hWW
            have h2W := h2.later (unhide HWr)
            have hDb : Below w.heap.size w W := h5.trans ((unhide HWr).mono h5.size)
            have z0 : W.cell? (a.add (i * 6)) = some (.string xk) := cell_later (unhide HWr) xc0
            obtain ⟨CS, hCS⟩ : ∃ CS, cellsC cs = CS := ⟨_, rfl⟩
            obtain ⟨lo, hlo⟩ : ∃ lo, w.heap.size = lo := ⟨_, rfl⟩
            obtain ⟨h3s, hh3s⟩ : ∃ h3s, W.heap.size = h3s := ⟨_, rfl⟩
            obtain ⟨W4, hW4⟩ : ∃ W4, W.alloc (.cells #[.string xk, .bool true, .int .i64 0, .int .i64 0, .string ⟨#[]⟩, .slice none 0 0, .slice none 0 0] 36) = W4 := ⟨_, rfl⟩
            have X4 : Below W.heap.size W W4 := by rw [← hW4]; exact (Below.refl _ _).alloc (Nat.le_refl _) _
            have at4 : W4.heap[h3s]? = some (.cells #[.string xk, .bool true, .int .i64 0, .int .i64 0, .string ⟨#[]⟩, .slice none 0 0, .slice none 0 0] 36 (0, 0)) := by rw [← hW4, ← hh3s]; exact heap_alloc_new W _
            have HOW : Hid (W4.ownsRow lo 36 7 (.slice so q sc) q CS) := hide (by
              have := (h2W.later X4).row
              rw [hq, hCS, hlo] at this
              exact this)
            have hloW : lo ≤ W4.heap.size := by have := hDb.size; have := X4.size; omega
            obtain ⟨iv, hiv, hz0, hz1, hz2⟩ := info_parts infoCh
            have HI := hide (And.intro hiv (And.intro hz0 (And.intro hz1 hz2)))
            have HEND : Hid (∀ (W5 : World) (g5 cap5 : Nat), W5.ownsRow lo 36 7 (.slice (some ⟨g5, 0, none⟩) (q + 1) cap5) (q + 1) (CS ++ [.string xk, .bool true, .int .i64 0, .int .i64 0, .string ⟨#[]⟩, .slice none 0 0, .slice none 0 0]) → W4.grownBy W5 (Value.slice so q sc).ownBlock → ((Value.slice so q sc).ownBlock = some g5 ∨ g5 = W4.heap.size) → RdI w W5 es fs DF (.slice (some ⟨g5, 0, none⟩) (q + 1) cap5) (q + 1) (i + 1) k) := hide (by
              intro W5 g5 cap5 o5 g5' a5
              rw [← hlo, ← hCS] at o5
              have hpush := h2W.push (k := xk) (gg := true) (c := (0, 0, ⟨#[]⟩, none, 0, 0, none, 0, 0)) (y := vl0) hq X4 hDb.size (zero_qD _ _) o5 g5' a5
              refine ⟨_, hpush, by simp [hq], by omega, ?_, hDb.trans (((X4.mono hDb.size)).trans ?_)⟩
              · rw [List.map_append, List.append_assoc, ← h3, unhide HDF]
                rfl
              · exact (Below.refl _ _).grown g5' (by have := hDb.size; have := X4.size; omega) (fun b hb => (h2.row.lt b hb).1))
            have hq256 : q ≤ 256 := by have := unhide HI1; omega
            have tokG : True := trivial
            clear h2 h2W h3 h5 hDb hq hqi hCS hiv hz0 hz1 hz2 HX X4 hlo xc0 xc1 xc2 xc3 xc4 xc5
            go_wp2_with (first | (have _t := tokG; refine wpList_append_lies W4 rfl _ _ 25 rfl lo 36 iv (.agg #[.string ⟨#[]⟩, .bool false, .int .i64 0, .int .i64 0, .string ⟨#[]⟩, .slice none 0 0, .slice none 0 0]) 7 104 Try.underlying25 (unhide HI).1 (unhide HI).2.1 (unhide HI).2.2.1 (unhide HI).2.2.2 rfl (by omega) (.slice so q sc) q CS (by rfl) (unhide HOW) ⟨h3s, 0, none⟩ 1 1 [.string xk, .bool true, .int .i64 0, .int .i64 0, .string ⟨#[]⟩, .slice none 0 0, .slice none 0 0] (by rfl) (by rfl) (World.news_of_block at4) (by simp [Value.oneCell']) (by omega) (by unfold maxLen; omega) (by omega) hloW _ rfl ?_; intro g5 cap5 W5 hown5 hgrow5 hat5 hlt5; clear tokG; have RR := hide (unhide HEND W5 g5 cap5 hown5 hgrow5 hat5); clear hown5 hgrow5 hat5 hlt5))
            go_roundw
            case rel => exact ⟨i + 1, k, _, _, _, rfl, by go_num, rfl, hide ⟨by omega, by omega⟩, RR⟩
            case measure => simp [intOf]; omega
        | false =>
          have hLa : Op.bytesLess xk.toList yk.toList = false := hL1
          cases hL2 : ltK yk xk with
          | true =>
            have hLb : Op.bytesLess yk.toList xk.toList = true := hL2
            have HDF : Hid (dfL (es.length + fs.length - (i + k)) (es.drop i) (fs.drop k) = (yk, false, yv) :: dfL (es.length + fs.length - (i + (k + 1))) (es.drop i) (fs.drop (k + 1))) := hide (df_put hy (by have := unhide HN; omega) (Or.inr ⟨xk, xv, hx, hL2⟩))
            clear xe ye hx hy hL1 hL2
            go_upto_region 13 with fail
            go_cut [62] from 21 to 131 (fun r wx => r = .bool false ∧ ∃ q, wx = wr.drewN q)
            case first =>
              go_quiet (fail)
              go_wp2_with fail
              go_meet
              exact ⟨rfl, _, rfl⟩
            case rest =>
              obtain ⟨rfl, q1, hwc⟩ := hcut
              have HW1 : Hid (Below wr.heap.size wr wc) := hide (by rw [hwc]; exact below_drewD (Below.refl _ _) _)
              clear hwc
              obtain ⟨V1, hV1⟩ : ∃ W, wc = W := ⟨_, rfl⟩
              rw [hV1] at HW1
              rw [hV1]
              clear hV1
              have w0y : V1.cell? (b.add (k * 6)) = some (.string yk) := cell_later (unhide HW1) yc0
              have w0x : V1.cell? (a.add (i * 6)) = some (.string xk) := cell_later (unhide HW1) xc0
              go_upto_region 16 with fail
              go_cut [97] from 21 to 131 (fun r wx => r = .bool true ∧ ∃ q, wx = V1.drewN q)
              case first =>
                go_quiet (fail)
                go_wp2_with fail
                go_meet
                exact ⟨rfl, _, rfl⟩
              case rest =>
                obtain ⟨rfl, q2, hwc⟩ := hcut
                have HWr : Hid (Below wr.heap.size wr wc) := hide (by rw [hwc]; exact below_drewD (unhide HW1) _)
                clear hwc HW1
                obtain ⟨W, hWW⟩ : ∃ W, wc = W := ⟨_, rfl⟩
                rw [hWW] at HWr
                rw [hWW]
                clear hWW
                have h2W := h2.later (unhide HWr)
                have hDb : Below w.heap.size w W := h5.trans ((unhide HWr).mono h5.size)
                have HYC : Hid (W.cell? (b.add (k * 6)) = some (.string yk) ∧ W.cell? ⟨(b.add (k * 6)).block, (b.add (k * 6)).off + 1, none⟩ = some (.int .i64 y0) ∧ W.cell? ⟨(b.add (k * 6)).block, (b.add (k * 6)).off + 2, none⟩ = some (.int .i64 y1) ∧ W.cell? ⟨(b.add (k * 6)).block, (b.add (k * 6)).off + 3, none⟩ = some (.string y2) ∧ W.cell? ⟨(b.add (k * 6)).block, (b.add (k * 6)).off + 4, none⟩ = some (.slice y3 y4 y5) ∧ W.cell? ⟨(b.add (k * 6)).block, (b.add (k * 6)).off + 5, none⟩ = some (.slice y6 y7 y8)) := hide ⟨cell_later (unhide HWr) yc0, cell_later (unhide HWr) yc1, cell_later (unhide HWr) yc2, cell_later (unhide HWr) yc3, cell_later (unhide HWr) yc4, cell_later (unhide HWr) yc5⟩
                have HYB : Hid ((b.add (k * 6)).block < W.heap.size ∧ some (b.add (k * 6)).block ≠ (Value.slice so q sc).ownBlock) := hide ⟨by have := hDb.size; have := unhide HB; rw [block_add]; omega, fun e => by rw [block_add] at e; have := (h2.row.lt b.block e.symm).1; have := unhide HB; omega⟩
                have HCo : Hid (∀ u, Below W.heap.size W u → Calls Try.prog 27 #[.agg #[.int .i64 y0, .int .i64 y1, .string y2, .slice y3 y4 y5, .slice y6 y7 y8]] u fun e w' => ∃ d : Th5, e = .returned (.agg (th5 d).toArray) ∧ Below u.heap.size u w' ∧ IsQ w' (fun b => u.heap.size ≤ b ∧ b < w'.heap.size) yv (.agg (th5 d).toArray)) := hide (fun u hu => by
                  refine (copyD_any yv _ B u (IsV.mono (((unhide HWr).trans (hu.mono (unhide HWr).size)).mono (Nat.le_trans (unhide HB) h5.size)) (unhide HVY)) (Nat.le_trans (unhide HB) (hDb.trans (hu.mono hDb.size)).size)).mono ?_
                  rintro e w' ⟨x', rfl, bb, qq, -⟩
                  have hq := qq (unhide HYR).2.2
                  obtain ⟨d, rfl⟩ := isP_th5 hq.1
                  exact ⟨d, rfl, bb, hq⟩)
                obtain ⟨CS, hCS⟩ : ∃ CS, cellsC cs = CS := ⟨_, rfl⟩
                obtain ⟨lo, hlo⟩ : ∃ lo, w.heap.size = lo := ⟨_, rfl⟩
                have HOW : Hid (∀ u, Below W.heap.size W u → u.ownsRow lo 36 7 (.slice so q sc) q CS) := hide (fun u hu => by
                  have := (h2W.later hu).row
                  rw [hq, hCS, hlo] at this
                  exact this)
                have hloW : lo ≤ W.heap.size := by have := hDb.size; omega
                obtain ⟨iv, hiv, hz0, hz1, hz2⟩ := info_parts infoCh
                have HI := hide (And.intro hiv (And.intro hz0 (And.intro hz1 hz2)))
                have HEND : Hid (∀ (W4 W5 : World) (g5 cap5 : Nat) (c : Th5), Below W.heap.size W W4 → IsQ W4 (fun b => W.heap.size ≤ b ∧ b < W4.heap.size) yv (.agg (th5 c).toArray) → W5.ownsRow lo 36 7 (.slice (some ⟨g5, 0, none⟩) (q + 1) cap5) (q + 1) (CS ++ (.string yk :: .bool false :: th5 c)) → W4.grownBy W5 (Value.slice so q sc).ownBlock → ((Value.slice so q sc).ownBlock = some g5 ∨ g5 = W4.heap.size) → RdI w W5 es fs DF (.slice (some ⟨g5, 0, none⟩) (q + 1) cap5) (q + 1) i (k + 1)) := hide (by
                  intro W4 W5 g5 cap5 c b4 q4 o5 g5' a5
                  rw [← hlo, ← hCS] at o5
                  have hpush := h2W.push (k := yk) (gg := false) (c := c) (y := yv) hq b4 hDb.size q4 o5 g5' a5
                  refine ⟨_, hpush, by simp [hq], by omega, ?_, hDb.trans (((b4.mono hDb.size)).trans ?_)⟩
                  · rw [List.map_append, List.append_assoc, ← h3, unhide HDF]
                    rfl
                  · exact (Below.refl _ _).grown g5' (by have := hDb.size; have := b4.size; omega) (fun b hb => (h2.row.lt b hb).1))
                have hq256 : q ≤ 256 := by have := unhide HI1; omega
                clear h2 h2W h3 h5 hDb hq hqi hCS hiv hz0 hz1 hz2 HX
                clear yc0 yc1 yc2 yc3 yc4 yc5 xc0 xc1 xc2 xc3 xc4 xc5 w0y w0x
                go_upto_region 17 with fail
                have HS0 : Hid (W.drew.cell? (b.add (k * 6)) = some (.string yk) ∧ W.drew.cell? ⟨(b.add (k * 6)).block, (b.add (k * 6)).off + 1, none⟩ = some (.int .i64 y0) ∧ W.drew.cell? ⟨(b.add (k * 6)).block, (b.add (k * 6)).off + 2, none⟩ = some (.int .i64 y1) ∧ W.drew.cell? ⟨(b.add (k * 6)).block, (b.add (k * 6)).off + 3, none⟩ = some (.string y2) ∧ W.drew.cell? ⟨(b.add (k * 6)).block, (b.add (k * 6)).off + 4, none⟩ = some (.slice y3 y4 y5) ∧ W.drew.cell? ⟨(b.add (k * 6)).block, (b.add (k * 6)).off + 5, none⟩ = some (.slice y6 y7 y8)) := hide (unhide HYC)
                refine till_begin (S := fun w' => w'.cell? (b.add (k * 6)) = some (.string yk) ∧ w'.cell? ⟨(b.add (k * 6)).block, (b.add (k * 6)).off + 1, none⟩ = some (.int .i64 y0) ∧ w'.cell? ⟨(b.add (k * 6)).block, (b.add (k * 6)).off + 2, none⟩ = some (.int .i64 y1) ∧ w'.cell? ⟨(b.add (k * 6)).block, (b.add (k * 6)).off + 3, none⟩ = some (.string y2) ∧ w'.cell? ⟨(b.add (k * 6)).block, (b.add (k * 6)).off + 4, none⟩ = some (.slice y3 y4 y5) ∧ w'.cell? ⟨(b.add (k * 6)).block, (b.add (k * 6)).off + 5, none⟩ = some (.slice y6 y7 y8)) 15 (by kernel_rfl) ?_
                refine till_take 0 (v := .slice so q sc) (some 115) rfl rfl rfl (by kernel_rfl) (by kernel_rfl) (by kernel_rfl) (by kernel_rfl) (fun _ _ _ h => h) (Or.inl ⟨by rfl, fun u hu => by obtain ⟨b0, b1, b2, b3, b4, b5⟩ := hu; go_simp⟩) (unhide HS0) ?_
                try simp only [Act.put, List.setIfInBounds_toArray, List.set_cons_zero, List.set_cons_succ]
                refine till_take 1 (v := .slice (some b) m ck) (some 116) rfl rfl rfl (by kernel_rfl) (by kernel_rfl) (by kernel_rfl) (by kernel_rfl) (fun _ _ _ h => h) (Or.inl ⟨by rfl, fun u hu => by obtain ⟨b0, b1, b2, b3, b4, b5⟩ := hu; go_simp⟩) (unhide HS0) ?_
                try simp only [Act.put, List.setIfInBounds_toArray, List.set_cons_zero, List.set_cons_succ]
                refine till_take 2 (v := .int .i64 (k : Int)) (some 117) rfl rfl rfl (by kernel_rfl) (by kernel_rfl) (by kernel_rfl) (by kernel_rfl) (fun _ _ _ h => h) (Or.inl ⟨by rfl, fun u hu => by obtain ⟨b0, b1, b2, b3, b4, b5⟩ := hu; go_simp⟩) (unhide HS0) ?_
                try simp only [Act.put, List.setIfInBounds_toArray, List.set_cons_zero, List.set_cons_succ]
                refine till_take 3 (v := .pointer (some (b.add (k * 6)))) (some 118) rfl rfl rfl (by kernel_rfl) (by kernel_rfl) (by kernel_rfl) (by kernel_rfl) (fun _ _ _ h => h) (Or.inl ⟨by rfl, fun u hu => by obtain ⟨b0, b1, b2, b3, b4, b5⟩ := hu; go_simp⟩) (unhide HS0) ?_
                try simp only [Act.put, List.setIfInBounds_toArray, List.set_cons_zero, List.set_cons_succ]
                refine till_take 4 (v := .pointer (some (b.add (k * 6)))) (some 119) rfl rfl rfl (by kernel_rfl) (by kernel_rfl) (by kernel_rfl) (by kernel_rfl) (fun _ _ _ h => h) (Or.inl ⟨by rfl, fun u hu => by obtain ⟨b0, b1, b2, b3, b4, b5⟩ := hu; go_simp⟩) (unhide HS0) ?_
                try simp only [Act.put, List.setIfInBounds_toArray, List.set_cons_zero, List.set_cons_succ]
                refine till_take 5 (v := .string yk) (some 120) rfl rfl rfl (by kernel_rfl) (by kernel_rfl) (by kernel_rfl) (by kernel_rfl) (fun _ _ _ h => h) (Or.inl ⟨by rfl, fun u hu => by obtain ⟨b0, b1, b2, b3, b4, b5⟩ := hu; go_simp⟩) (unhide HS0) ?_
                try simp only [Act.put, List.setIfInBounds_toArray, List.set_cons_zero, List.set_cons_succ]
                refine till_take 6 (v := .slice (some b) m ck) (some 121) rfl rfl rfl (by kernel_rfl) (by kernel_rfl) (by kernel_rfl) (by kernel_rfl) (fun _ _ _ h => h) (Or.inl ⟨by rfl, fun u hu => by obtain ⟨b0, b1, b2, b3, b4, b5⟩ := hu; go_simp⟩) (unhide HS0) ?_
                try simp only [Act.put, List.setIfInBounds_toArray, List.set_cons_zero, List.set_cons_succ]
                refine till_take 7 (v := .int .i64 (k : Int)) (some 122) rfl rfl rfl (by kernel_rfl) (by kernel_rfl) (by kernel_rfl) (by kernel_rfl) (fun _ _ _ h => h) (Or.inl ⟨by rfl, fun u hu => by obtain ⟨b0, b1, b2, b3, b4, b5⟩ := hu; go_simp⟩) (unhide HS0) ?_
                try simp only [Act.put, List.setIfInBounds_toArray, List.set_cons_zero, List.set_cons_succ]
                refine till_take 8 (v := .pointer (some (b.add (k * 6)))) (some 123) rfl rfl rfl (by kernel_rfl) (by kernel_rfl) (by kernel_rfl) (by kernel_rfl) (fun _ _ _ h => h) (Or.inl ⟨by rfl, fun u hu => by obtain ⟨b0, b1, b2, b3, b4, b5⟩ := hu; go_simp⟩) (unhide HS0) ?_
                try simp only [Act.put, List.setIfInBounds_toArray, List.set_cons_zero, List.set_cons_succ]
                refine till_take 9 (v := .pointer (some ⟨(b.add (k * 6)).block, (b.add (k * 6)).off + 1, none⟩)) (some 124) rfl rfl rfl (by kernel_rfl) (by kernel_rfl) (by kernel_rfl) (by kernel_rfl) (fun _ _ _ h => h) (Or.inl ⟨by rfl, fun u hu => by obtain ⟨b0, b1, b2, b3, b4, b5⟩ := hu; go_simp⟩) (unhide HS0) ?_
                try simp only [Act.put, List.setIfInBounds_toArray, List.set_cons_zero, List.set_cons_succ]
                refine till_take 10 (v := .agg #[.int .i64 y0, .int .i64 y1, .string y2, .slice y3 y4 y5, .slice y6 y7 y8]) (some 125) rfl rfl rfl (by kernel_rfl) (by kernel_rfl) (by kernel_rfl) (by kernel_rfl) (fun _ _ _ h => h) (Or.inl ⟨by rfl, fun u hu => by obtain ⟨b0, b1, b2, b3, b4, b5⟩ := hu; go_simp⟩) (unhide HS0) ?_
                try simp only [Act.put, List.setIfInBounds_toArray, List.set_cons_zero, List.set_cons_succ]
                refine till_one 11 (by kernel_rfl) rfl (fun K hK => ?_)
                go_simp
                refine (unhide HCo W.drew (below_drew_to2 (Below.refl _ _))).mono ?_
                rintro e W3 ⟨⟨d0, d1, d2, d3, d4, d5, d6, d7, d8⟩, rfl, b3, q3⟩
                dsimp only [th5] at q3 ⊢
                have X3 : Below W.heap.size W W3 := below_drew_of' b3
                have HS3 : Hid (W3.cell? (b.add (k * 6)) = some (.string yk) ∧ W3.cell? ⟨(b.add (k * 6)).block, (b.add (k * 6)).off + 1, none⟩ = some (.int .i64 y0) ∧ W3.cell? ⟨(b.add (k * 6)).block, (b.add (k * 6)).off + 2, none⟩ = some (.int .i64 y1) ∧ W3.cell? ⟨(b.add (k * 6)).block, (b.add (k * 6)).off + 3, none⟩ = some (.string y2) ∧ W3.cell? ⟨(b.add (k * 6)).block, (b.add (k * 6)).off + 4, none⟩ = some (.slice y3 y4 y5) ∧ W3.cell? ⟨(b.add (k * 6)).block, (b.add (k * 6)).off + 5, none⟩ = some (.slice y6 y7 y8)) := hide ⟨cell_later X3 ((unhide HS0).1), cell_later X3 ((unhide HS0).2.1), cell_later X3 ((unhide HS0).2.2.1), cell_later X3 ((unhide HS0).2.2.2.1), cell_later X3 ((unhide HS0).2.2.2.2.1), cell_later X3 ((unhide HS0).2.2.2.2.2)⟩
                have H3 : Hid (Below W.heap.size W W3 ∧ IsQ W3 (fun b => W.heap.size ≤ b ∧ b < W3.heap.size) yv (.agg #[.int .i64 d0, .int .i64 d1, .string d2, .slice d3 d4 d5, .slice d6 d7 d8])) := hide ⟨X3, q3⟩
                clear b3 q3 X3
                go_wp2_with fail
                refine hK.out _ _ (Or.inr (unhide HS3)) ?_
                clear hK K HS0
                try simp only [Act.put, List.setIfInBounds_toArray, List.set_cons_zero, List.set_cons_succ]
                refine till_one 12 (by kernel_rfl) rfl (fun K hK => ?_)
                obtain ⟨b0, b1, b2, b3, b4, b5⟩ := unhide HS3
                go_simp
                refine hK.out _ _ (Or.inr (unhide HS3)) ?_
                clear hK K b0 b1 b2 b3 b4 b5
                try simp only [Act.put, List.setIfInBounds_toArray, List.set_cons_zero, List.set_cons_succ]
                refine till_one 13 (by kernel_rfl) rfl (fun K hK => ?_)
                go_simp
                obtain ⟨W4, hW4⟩ : ∃ W4, W3.alloc (.cells #[.string yk, .bool false, .int .i64 d0, .int .i64 d1, .string d2, .slice d3 d4 d5, .slice d6 d7 d8] 36) = W4 := ⟨_, rfl⟩
                have X4 : Below W3.heap.size W3 W4 := by rw [← hW4]; exact (Below.refl _ _).alloc (Nat.le_refl _) _
                have at4 : W4.heap[W3.heap.size]? = some (.cells #[.string yk, .bool false, .int .i64 d0, .int .i64 d1, .string d2, .slice d3 d4 d5, .slice d6 d7 d8] 36 (0, 0)) := by rw [← hW4]; exact heap_alloc_new W3 _
                try rw [hW4]
                have HS4 : Hid (W4.cell? (b.add (k * 6)) = some (.string yk) ∧ W4.cell? ⟨(b.add (k * 6)).block, (b.add (k * 6)).off + 1, none⟩ = some (.int .i64 y0) ∧ W4.cell? ⟨(b.add (k * 6)).block, (b.add (k * 6)).off + 2, none⟩ = some (.int .i64 y1) ∧ W4.cell? ⟨(b.add (k * 6)).block, (b.add (k * 6)).off + 3, none⟩ = some (.string y2) ∧ W4.cell? ⟨(b.add (k * 6)).block, (b.add (k * 6)).off + 4, none⟩ = some (.slice y3 y4 y5) ∧ W4.cell? ⟨(b.add (k * 6)).block, (b.add (k * 6)).off + 5, none⟩ = some (.slice y6 y7 y8)) := hide ⟨cell_later X4 ((unhide HS3).1), cell_later X4 ((unhide HS3).2.1), cell_later X4 ((unhide HS3).2.2.1), cell_later X4 ((unhide HS3).2.2.2.1), cell_later X4 ((unhide HS3).2.2.2.2.1), cell_later X4 ((unhide HS3).2.2.2.2.2)⟩
                have H4 : Hid (Below W.heap.size W W4 ∧ IsQ W4 (fun b => W.heap.size ≤ b ∧ b < W4.heap.size) yv (.agg #[.int .i64 d0, .int .i64 d1, .string d2, .slice d3 d4 d5, .slice d6 d7 d8])) := hide ⟨(unhide H3).1.trans (X4.mono (unhide H3).1.size), ((unhide H3).2.move (fun b hb => X4.block b hb.2)).weak (fun b hb => ⟨hb.1, Nat.lt_of_lt_of_le hb.2 X4.size⟩)⟩
                obtain ⟨h3s, hh3s⟩ : ∃ h3s, W3.heap.size = h3s := ⟨_, rfl⟩
                rw [hh3s] at at4
                try rw [hh3s]
                refine hK.out _ _ (Or.inr (unhide HS4)) ?_
                clear hK K hW4 X4 hh3s HS3 H3
                try simp only [Act.put, List.setIfInBounds_toArray, List.set_cons_zero, List.set_cons_succ]
                refine till_one 14 (by kernel_rfl) rfl (fun K hK => ?_)
                refine step_append_lies _ (by rfl) _ _ 25 (by rfl) lo 36 iv (.agg #[.string ⟨#[]⟩, .bool false, .int .i64 0, .int .i64 0, .string ⟨#[]⟩, .slice none 0 0, .slice none 0 0]) 7 104 Try.underlying25 (unhide HI).1 (unhide HI).2.1 (unhide HI).2.2.1 (unhide HI).2.2.2 rfl (by omega) (.slice so q sc) q CS (by rfl) (unhide HOW W4 (unhide H4).1) ⟨h3s, 0, none⟩ 1 1 [.string yk, .bool false, .int .i64 d0, .int .i64 d1, .string d2, .slice d3 d4 d5, .slice d6 d7 d8] (by rfl) (by rfl) (World.news_of_block at4) (by simp [Value.oneCell']) (by omega) (by unfold maxLen; omega) (by omega) (Nat.le_trans hloW (unhide H4).1.size) _ rfl ?_
                intro g5 cap5 W5 hown5 hgrow5 hat5 hlt5
                change K (Act.put _ (some 129) _) W5
                have HS5 : Hid (W5.cell? (b.add (k * 6)) = some (.string yk) ∧ W5.cell? ⟨(b.add (k * 6)).block, (b.add (k * 6)).off + 1, none⟩ = some (.int .i64 y0) ∧ W5.cell? ⟨(b.add (k * 6)).block, (b.add (k * 6)).off + 2, none⟩ = some (.int .i64 y1) ∧ W5.cell? ⟨(b.add (k * 6)).block, (b.add (k * 6)).off + 3, none⟩ = some (.string y2) ∧ W5.cell? ⟨(b.add (k * 6)).block, (b.add (k * 6)).off + 4, none⟩ = some (.slice y3 y4 y5) ∧ W5.cell? ⟨(b.add (k * 6)).block, (b.add (k * 6)).off + 5, none⟩ = some (.slice y6 y7 y8)) := hide ⟨(hgrow5.cell_far (b.add (k * 6)) (Nat.lt_of_lt_of_le (unhide HYB).1 (unhide H4).1.size) (unhide HYB).2).trans ((unhide HS4).1), (hgrow5.cell_far ⟨(b.add (k * 6)).block, (b.add (k * 6)).off + 1, none⟩ (Nat.lt_of_lt_of_le (unhide HYB).1 (unhide H4).1.size) (unhide HYB).2).trans ((unhide HS4).2.1), (hgrow5.cell_far ⟨(b.add (k * 6)).block, (b.add (k * 6)).off + 2, none⟩ (Nat.lt_of_lt_of_le (unhide HYB).1 (unhide H4).1.size) (unhide HYB).2).trans ((unhide HS4).2.2.1), (hgrow5.cell_far ⟨(b.add (k * 6)).block, (b.add (k * 6)).off + 3, none⟩ (Nat.lt_of_lt_of_le (unhide HYB).1 (unhide H4).1.size) (unhide HYB).2).trans ((unhide HS4).2.2.2.1), (hgrow5.cell_far ⟨(b.add (k * 6)).block, (b.add (k * 6)).off + 4, none⟩ (Nat.lt_of_lt_of_le (unhide HYB).1 (unhide H4).1.size) (unhide HYB).2).trans ((unhide HS4).2.2.2.2.1), (hgrow5.cell_far ⟨(b.add (k * 6)).block, (b.add (k * 6)).off + 5, none⟩ (Nat.lt_of_lt_of_le (unhide HYB).1 (unhide H4).1.size) (unhide HYB).2).trans ((unhide HS4).2.2.2.2.2)⟩
                have H5 := hide (And.intro hown5 (And.intro hgrow5 hat5))
                refine hK.out _ _ (Or.inr (unhide HS5)) ?_
                clear hK K hown5 hgrow5 hat5 hlt5 HS4
                try simp only [Act.put, List.setIfInBounds_toArray, List.set_cons_zero, List.set_cons_succ]
                refine till_one 15 (by kernel_rfl) rfl (fun K hK => ?_)
                obtain ⟨b0, b1, b2, b3, b4, b5⟩ := unhide HS5
                go_simp
                refine hK.out _ _ (Or.inl (by first | rfl | trivial)) ?_
                clear hK K b0 b1 b2 b3 b4 b5
                try simp only [Act.put, List.setIfInBounds_toArray, List.set_cons_zero, List.set_cons_succ]
                refine till_done (by kernel_rfl) ?_ _
                have RR := hide (unhide HEND W4 W5 g5 cap5 (d0, d1, d2, d3, d4, d5, d6, d7, d8) (unhide H4).1 (unhide H4).2 (unhide H5).1 (unhide H5).2.1 (unhide H5).2.2)
                clear HEND H4 H5 HOW HI HS5 at4 HYC HYB HCo
                go_wp2_with fail
                go_roundw
                case rel => exact ⟨i, k + 1, _, _, _, rfl, rfl, by go_num, hide ⟨by omega, by omega⟩, RR⟩
                case measure => simp [intOf]; omega
          | false =>
            have hLb : Op.bytesLess yk.toList xk.toList = false := hL2
            have HDB := hide (df_both hx hy hL1 hL2)
            obtain ⟨c, hcc⟩ : ∃ c, ord0 xv yv = c := ⟨_, rfl⟩
            rw [hcc] at HDB
            have HCV := hide hcc
            clear xe ye hx hy hL1 hL2 hcc
            by_cases hc0 : c = 0
            · subst hc0
              have HDF : Hid (dfL (es.length + fs.length - (i + k)) (es.drop i) (fs.drop k) = [] ++ dfL (es.length + fs.length - (i + 1 + (k + 1))) (es.drop (i + 1)) (fs.drop (k + 1))) := hide (by rw [unhide HDB, if_pos rfl])
              clear HDB
              go_upto_region 13 with fail
              go_cut [62] from 21 to 131 (fun r wx => r = .bool false ∧ ∃ q, wx = wr.drewN q)
              case first =>
                go_quiet (fail)
                go_wp2_with fail
                go_meet
                exact ⟨rfl, _, rfl⟩
              case rest =>
                obtain ⟨rfl, q1, hwc⟩ := hcut
                have HW1 : Hid (Below wr.heap.size wr wc) := hide (by rw [hwc]; exact below_drewD (Below.refl _ _) _)
                clear hwc
                obtain ⟨V1, hV1⟩ : ∃ W, wc = W := ⟨_, rfl⟩
                rw [hV1] at HW1
                rw [hV1]
                clear hV1
                have w0y : V1.cell? (b.add (k * 6)) = some (.string yk) := cell_later (unhide HW1) yc0
                have w0x : V1.cell? (a.add (i * 6)) = some (.string xk) := cell_later (unhide HW1) xc0
                go_upto_region 16 with fail
                go_cut [97] from 21 to 131 (fun r wx => r = .bool false ∧ ∃ q, wx = V1.drewN q)
                case first =>
                  go_quiet (fail)
                  go_wp2_with fail
                  go_meet
                  exact ⟨rfl, _, rfl⟩
                case rest =>
                  obtain ⟨rfl, q2, hwc⟩ := hcut
                  have HW2 : Hid (Below wr.heap.size wr wc) := hide (by rw [hwc]; exact below_drewD (unhide HW1) _)
                  clear hwc HW1
                  obtain ⟨V2, hV2⟩ : ∃ W, wc = W := ⟨_, rfl⟩
                  rw [hV2] at HW2
                  rw [hV2]
                  clear hV2
                  have CC := hide (compare_ref xv yv _ _ B V2.drew (IsV.mono ((below_drew_to2 (unhide HW2)).mono (Nat.le_trans (unhide HB) h5.size)) (unhide HVX)) (IsV.mono ((below_drew_to2 (unhide HW2)).mono (Nat.le_trans (unhide HB) h5.size)) (unhide HVY)) (Nat.le_trans (unhide HB) (Nat.le_trans h5.size (unhide HW2).size)))
                  rw [unhide HCV] at CC
                  go_upto_region 9 with fail
                  go_cut [42] from 21 to 131 (fun r wx => r = .bool false ∧ Hid (Below wr.heap.size wr wx))
                  case first =>
                    have gx1 : V2.cell? ⟨(a.add (i * 6)).block, (a.add (i * 6)).off + 1, none⟩ = some (.int .i64 x0) := cell_later (unhide HW2) xc1
                    have gx2 : V2.cell? ⟨(a.add (i * 6)).block, (a.add (i * 6)).off + 2, none⟩ = some (.int .i64 x1) := cell_later (unhide HW2) xc2
                    have gx3 : V2.cell? ⟨(a.add (i * 6)).block, (a.add (i * 6)).off + 3, none⟩ = some (.string x2) := cell_later (unhide HW2) xc3
                    have gx4 : V2.cell? ⟨(a.add (i * 6)).block, (a.add (i * 6)).off + 4, none⟩ = some (.slice x3 x4 x5) := cell_later (unhide HW2) xc4
                    have gx5 : V2.cell? ⟨(a.add (i * 6)).block, (a.add (i * 6)).off + 5, none⟩ = some (.slice x6 x7 x8) := cell_later (unhide HW2) xc5
                    have gy1 : V2.cell? ⟨(b.add (k * 6)).block, (b.add (k * 6)).off + 1, none⟩ = some (.int .i64 y0) := cell_later (unhide HW2) yc1
                    have gy2 : V2.cell? ⟨(b.add (k * 6)).block, (b.add (k * 6)).off + 2, none⟩ = some (.int .i64 y1) := cell_later (unhide HW2) yc2
                    have gy3 : V2.cell? ⟨(b.add (k * 6)).block, (b.add (k * 6)).off + 3, none⟩ = some (.string y2) := cell_later (unhide HW2) yc3
                    have gy4 : V2.cell? ⟨(b.add (k * 6)).block, (b.add (k * 6)).off + 4, none⟩ = some (.slice y3 y4 y5) := cell_later (unhide HW2) yc4
                    have gy5 : V2.cell? ⟨(b.add (k * 6)).block, (b.add (k * 6)).off + 5, none⟩ = some (.slice y6 y7 y8) := cell_later (unhide HW2) yc5
                    clear xc0 yc0 xc1 yc1 xc2 yc2 xc3 yc3 xc4 yc4 xc5 yc5 w0x w0y
                    go_region_held3 (fun w' => w'.cell? ⟨(a.add (i * 6)).block, (a.add (i * 6)).off + 1, none⟩ = some (.int .i64 x0) ∧ w'.cell? ⟨(a.add (i * 6)).block, (a.add (i * 6)).off + 2, none⟩ = some (.int .i64 x1) ∧ w'.cell? ⟨(a.add (i * 6)).block, (a.add (i * 6)).off + 3, none⟩ = some (.string x2) ∧ w'.cell? ⟨(a.add (i * 6)).block, (a.add (i * 6)).off + 4, none⟩ = some (.slice x3 x4 x5) ∧ w'.cell? ⟨(a.add (i * 6)).block, (a.add (i * 6)).off + 5, none⟩ = some (.slice x6 x7 x8) ∧ w'.cell? ⟨(b.add (k * 6)).block, (b.add (k * 6)).off + 1, none⟩ = some (.int .i64 y0) ∧ w'.cell? ⟨(b.add (k * 6)).block, (b.add (k * 6)).off + 2, none⟩ = some (.int .i64 y1) ∧ w'.cell? ⟨(b.add (k * 6)).block, (b.add (k * 6)).off + 3, none⟩ = some (.string y2) ∧ w'.cell? ⟨(b.add (k * 6)).block, (b.add (k * 6)).off + 4, none⟩ = some (.slice y3 y4 y5) ∧ w'.cell? ⟨(b.add (k * 6)).block, (b.add (k * 6)).off + 5, none⟩ = some (.slice y6 y7 y8))
                      (first | go_keep | (have hb6 := below_drew_of' b5; exact ⟨cell_later hb6 gx1, cell_later hb6 gx2, cell_later hb6 gx3, cell_later hb6 gx4, cell_later hb6 gx5, cell_later hb6 gy1, cell_later hb6 gy2, cell_later hb6 gy3, cell_later hb6 gy4, cell_later hb6 gy5⟩))
                      (first | (go_at_call 28; refine (unhide CC).mono ?_; rintro e w5 ⟨rfl, b5⟩))
                    have HX5 : Hid (Below V2.heap.size V2 w5) := hide (below_drew_of' b5)
                    clear b5 CC
                    go_wp2_with fail
                    go_meet
                    exact ⟨by first | rfl | simp [bne, hc1], hide ((unhide HW2).trans ((unhide HX5).mono (unhide HW2).size))⟩
                  case rest =>
                    obtain ⟨rfl, HWr0⟩ := hcut
                    obtain ⟨W, hWW⟩ : ∃ W, wc = W := ⟨_, rfl⟩
                    rw [hWW] at HWr0
                    rw [hWW]
                    clear hWW
                    have HWr : Hid (Below wr.heap.size wr W) := HWr0
                    clear HWr0 HW2 CC
                    have RR : Hid (RdI w W es fs DF (.slice so q sc) q (i + 1) (k + 1)) := hide ⟨cs, h2.later (unhide HWr), hq, by omega, by rw [← h3, unhide HDF, List.nil_append], h5.trans ((unhide HWr).mono h5.size)⟩
                    clear h2 h3 h5 hq hqi HX xc0 yc0 xc1 yc1 xc2 yc2 xc3 yc3 xc4 yc4 xc5 yc5 w0x w0y
                    go_wp2_with fail
                    go_roundw
                    case rel => exact ⟨i + 1, k + 1, so, q, sc, rfl, by go_num, by go_num, hide ⟨by omega, by omega⟩, RR⟩
                    case measure => simp [intOf]; omega
            · have hc1 : (c == 0) = false := beq_eq_false_iff_ne.2 hc0
              have HDF : Hid (dfL (es.length + fs.length - (i + k)) (es.drop i) (fs.drop k) = [(yk, false, yv)] ++ dfL (es.length + fs.length - (i + 1 + (k + 1))) (es.drop (i + 1)) (fs.drop (k + 1))) := hide (by rw [unhide HDB, if_neg hc0])
              clear HDB
              go_upto_region 13 with fail
              go_cut [62] from 21 to 131 (fun r wx => r = .bool false ∧ ∃ q, wx = wr.drewN q)
              case first =>
                go_quiet (fail)
                go_wp2_with fail
                go_meet
                exact ⟨rfl, _, rfl⟩
              case rest =>
                obtain ⟨rfl, q1, hwc⟩ := hcut
                have HW1 : Hid (Below wr.heap.size wr wc) := hide (by rw [hwc]; exact below_drewD (Below.refl _ _) _)
                clear hwc
                obtain ⟨V1, hV1⟩ : ∃ W, wc = W := ⟨_, rfl⟩
                rw [hV1] at HW1
                rw [hV1]
                clear hV1
                have w0y : V1.cell? (b.add (k * 6)) = some (.string yk) := cell_later (unhide HW1) yc0
                have w0x : V1.cell? (a.add (i * 6)) = some (.string xk) := cell_later (unhide HW1) xc0
                go_upto_region 16 with fail
                go_cut [97] from 21 to 131 (fun r wx => r = .bool false ∧ ∃ q, wx = V1.drewN q)
                case first =>
                  go_quiet (fail)
                  go_wp2_with fail
                  go_meet
                  exact ⟨rfl, _, rfl⟩
                case rest =>
                  obtain ⟨rfl, q2, hwc⟩ := hcut
                  have HW2 : Hid (Below wr.heap.size wr wc) := hide (by rw [hwc]; exact below_drewD (unhide HW1) _)
                  clear hwc HW1
                  obtain ⟨V2, hV2⟩ : ∃ W, wc = W := ⟨_, rfl⟩
                  rw [hV2] at HW2
                  rw [hV2]
                  clear hV2
                  have CC := hide (compare_ref xv yv _ _ B V2.drew (IsV.mono ((below_drew_to2 (unhide HW2)).mono (Nat.le_trans (unhide HB) h5.size)) (unhide HVX)) (IsV.mono ((below_drew_to2 (unhide HW2)).mono (Nat.le_trans (unhide HB) h5.size)) (unhide HVY)) (Nat.le_trans (unhide HB) (Nat.le_trans h5.size (unhide HW2).size)))
                  rw [unhide HCV] at CC
                  go_upto_region 9 with fail
                  go_cut [42] from 21 to 131 (fun r wx => r = .bool true ∧ Hid (Below wr.heap.size wr wx))
                  case first =>
                    have gx1 : V2.cell? ⟨(a.add (i * 6)).block, (a.add (i * 6)).off + 1, none⟩ = some (.int .i64 x0) := cell_later (unhide HW2) xc1
                    have gx2 : V2.cell? ⟨(a.add (i * 6)).block, (a.add (i * 6)).off + 2, none⟩ = some (.int .i64 x1) := cell_later (unhide HW2) xc2
                    have gx3 : V2.cell? ⟨(a.add (i * 6)).block, (a.add (i * 6)).off + 3, none⟩ = some (.string x2) := cell_later (unhide HW2) xc3
                    have gx4 : V2.cell? ⟨(a.add (i * 6)).block, (a.add (i * 6)).off + 4, none⟩ = some (.slice x3 x4 x5) := cell_later (unhide HW2) xc4
                    have gx5 : V2.cell? ⟨(a.add (i * 6)).block, (a.add (i * 6)).off + 5, none⟩ = some (.slice x6 x7 x8) := cell_later (unhide HW2) xc5
                    have gy1 : V2.cell? ⟨(b.add (k * 6)).block, (b.add (k * 6)).off + 1, none⟩ = some (.int .i64 y0) := cell_later (unhide HW2) yc1
                    have gy2 : V2.cell? ⟨(b.add (k * 6)).block, (b.add (k * 6)).off + 2, none⟩ = some (.int .i64 y1) := cell_later (unhide HW2) yc2
                    have gy3 : V2.cell? ⟨(b.add (k * 6)).block, (b.add (k * 6)).off + 3, none⟩ = some (.string y2) := cell_later (unhide HW2) yc3
                    have gy4 : V2.cell? ⟨(b.add (k * 6)).block, (b.add (k * 6)).off + 4, none⟩ = some (.slice y3 y4 y5) := cell_later (unhide HW2) yc4
                    have gy5 : V2.cell? ⟨(b.add (k * 6)).block, (b.add (k * 6)).off + 5, none⟩ = some (.slice y6 y7 y8) := cell_later (unhide HW2) yc5
                    clear xc0 yc0 xc1 yc1 xc2 yc2 xc3 yc3 xc4 yc4 xc5 yc5 w0x w0y
                    go_region_held3 (fun w' => w'.cell? ⟨(a.add (i * 6)).block, (a.add (i * 6)).off + 1, none⟩ = some (.int .i64 x0) ∧ w'.cell? ⟨(a.add (i * 6)).block, (a.add (i * 6)).off + 2, none⟩ = some (.int .i64 x1) ∧ w'.cell? ⟨(a.add (i * 6)).block, (a.add (i * 6)).off + 3, none⟩ = some (.string x2) ∧ w'.cell? ⟨(a.add (i * 6)).block, (a.add (i * 6)).off + 4, none⟩ = some (.slice x3 x4 x5) ∧ w'.cell? ⟨(a.add (i * 6)).block, (a.add (i * 6)).off + 5, none⟩ = some (.slice x6 x7 x8) ∧ w'.cell? ⟨(b.add (k * 6)).block, (b.add (k * 6)).off + 1, none⟩ = some (.int .i64 y0) ∧ w'.cell? ⟨(b.add (k * 6)).block, (b.add (k * 6)).off + 2, none⟩ = some (.int .i64 y1) ∧ w'.cell? ⟨(b.add (k * 6)).block, (b.add (k * 6)).off + 3, none⟩ = some (.string y2) ∧ w'.cell? ⟨(b.add (k * 6)).block, (b.add (k * 6)).off + 4, none⟩ = some (.slice y3 y4 y5) ∧ w'.cell? ⟨(b.add (k * 6)).block, (b.add (k * 6)).off + 5, none⟩ = some (.slice y6 y7 y8))
                      (first | go_keep | (have hb6 := below_drew_of' b5; exact ⟨cell_later hb6 gx1, cell_later hb6 gx2, cell_later hb6 gx3, cell_later hb6 gx4, cell_later hb6 gx5, cell_later hb6 gy1, cell_later hb6 gy2, cell_later hb6 gy3, cell_later hb6 gy4, cell_later hb6 gy5⟩))
                      (first | (go_at_call 28; refine (unhide CC).mono ?_; rintro e w5 ⟨rfl, b5⟩))
                    have HX5 : Hid (Below V2.heap.size V2 w5) := hide (below_drew_of' b5)
                    clear b5 CC
                    go_wp2_with fail
                    go_meet
                    exact ⟨by first | rfl | simp [bne, hc1], hide ((unhide HW2).trans ((unhide HX5).mono (unhide HW2).size))⟩
                  case rest =>
                    obtain ⟨rfl, HWr0⟩ := hcut
                    obtain ⟨W, hWW⟩ : ∃ W, wc = W := ⟨_, rfl⟩
                    rw [hWW] at HWr0
                    rw [hWW]
                    clear hWW
                    have HWr : Hid (Below wr.heap.size wr W) := HWr0
                    clear HWr0 HW2 CC
                    have h2W := h2.later (unhide HWr)
                    have hDb : Below w.heap.size w W := h5.trans ((unhide HWr).mono h5.size)
                    have HYC : Hid (W.cell? (b.add (k * 6)) = some (.string yk) ∧ W.cell? ⟨(b.add (k * 6)).block, (b.add (k * 6)).off + 1, none⟩ = some (.int .i64 y0) ∧ W.cell? ⟨(b.add (k * 6)).block, (b.add (k * 6)).off + 2, none⟩ = some (.int .i64 y1) ∧ W.cell? ⟨(b.add (k * 6)).block, (b.add (k * 6)).off + 3, none⟩ = some (.string y2) ∧ W.cell? ⟨(b.add (k * 6)).block, (b.add (k * 6)).off + 4, none⟩ = some (.slice y3 y4 y5) ∧ W.cell? ⟨(b.add (k * 6)).block, (b.add (k * 6)).off + 5, none⟩ = some (.slice y6 y7 y8)) := hide ⟨cell_later (unhide HWr) yc0, cell_later (unhide HWr) yc1, cell_later (unhide HWr) yc2, cell_later (unhide HWr) yc3, cell_later (unhide HWr) yc4, cell_later (unhide HWr) yc5⟩
                    have HYB : Hid ((b.add (k * 6)).block < W.heap.size ∧ some (b.add (k * 6)).block ≠ (Value.slice so q sc).ownBlock) := hide ⟨by have := hDb.size; have := unhide HB; rw [block_add]; omega, fun e => by rw [block_add] at e; have := (h2.row.lt b.block e.symm).1; have := unhide HB; omega⟩
                    have HCo : Hid (∀ u, Below W.heap.size W u → Calls Try.prog 27 #[.agg #[.int .i64 y0, .int .i64 y1, .string y2, .slice y3 y4 y5, .slice y6 y7 y8]] u fun e w' => ∃ d : Th5, e = .returned (.agg (th5 d).toArray) ∧ Below u.heap.size u w' ∧ IsQ w' (fun b => u.heap.size ≤ b ∧ b < w'.heap.size) yv (.agg (th5 d).toArray)) := hide (fun u hu => by
                      refine (copyD_any yv _ B u (IsV.mono (((unhide HWr).trans (hu.mono (unhide HWr).size)).mono (Nat.le_trans (unhide HB) h5.size)) (unhide HVY)) (Nat.le_trans (unhide HB) (hDb.trans (hu.mono hDb.size)).size)).mono ?_
                      rintro e w' ⟨x', rfl, bb, qq, -⟩
                      have hq := qq (unhide HYR).2.2
                      obtain ⟨d, rfl⟩ := isP_th5 hq.1
                      exact ⟨d, rfl, bb, hq⟩)
                    obtain ⟨CS, hCS⟩ : ∃ CS, cellsC cs = CS := ⟨_, rfl⟩
                    obtain ⟨lo, hlo⟩ : ∃ lo, w.heap.size = lo := ⟨_, rfl⟩
                    have HOW : Hid (∀ u, Below W.heap.size W u → u.ownsRow lo 36 7 (.slice so q sc) q CS) := hide (fun u hu => by
                      have := (h2W.later hu).row
                      rw [hq, hCS, hlo] at this
                      exact this)
                    have hloW : lo ≤ W.heap.size := by have := hDb.size; omega
                    obtain ⟨iv, hiv, hz0, hz1, hz2⟩ := info_parts infoCh
                    have HI := hide (And.intro hiv (And.intro hz0 (And.intro hz1 hz2)))
                    have HEND : Hid (∀ (W4 W5 : World) (g5 cap5 : Nat) (c : Th5), Below W.heap.size W W4 → IsQ W4 (fun b => W.heap.size ≤ b ∧ b < W4.heap.size) yv (.agg (th5 c).toArray) → W5.ownsRow lo 36 7 (.slice (some ⟨g5, 0, none⟩) (q + 1) cap5) (q + 1) (CS ++ (.string yk :: .bool false :: th5 c)) → W4.grownBy W5 (Value.slice so q sc).ownBlock → ((Value.slice so q sc).ownBlock = some g5 ∨ g5 = W4.heap.size) → RdI w W5 es fs DF (.slice (some ⟨g5, 0, none⟩) (q + 1) cap5) (q + 1) (i + 1) (k + 1)) := hide (by
                      intro W4 W5 g5 cap5 c b4 q4 o5 g5' a5
                      rw [← hlo, ← hCS] at o5
                      have hpush := h2W.push (k := yk) (gg := false) (c := c) (y := yv) hq b4 hDb.size q4 o5 g5' a5
                      refine ⟨_, hpush, by simp [hq], by omega, ?_, hDb.trans (((b4.mono hDb.size)).trans ?_)⟩
                      · rw [List.map_append, List.append_assoc, ← h3, unhide HDF]
                        rfl
                      · exact (Below.refl _ _).grown g5' (by have := hDb.size; have := b4.size; omega) (fun b hb => (h2.row.lt b hb).1))
                    have hq256 : q ≤ 256 := by have := unhide HI1; omega
                    clear h2 h2W h3 h5 hDb hq hqi hCS hiv hz0 hz1 hz2 HX
                    clear xc0 yc0 xc1 yc1 xc2 yc2 xc3 yc3 xc4 yc4 xc5 yc5 w0x w0y
                    go_upto_region 10 with fail
                    have HS0 : Hid (W.drew.cell? (b.add (k * 6)) = some (.string yk) ∧ W.drew.cell? ⟨(b.add (k * 6)).block, (b.add (k * 6)).off + 1, none⟩ = some (.int .i64 y0) ∧ W.drew.cell? ⟨(b.add (k * 6)).block, (b.add (k * 6)).off + 2, none⟩ = some (.int .i64 y1) ∧ W.drew.cell? ⟨(b.add (k * 6)).block, (b.add (k * 6)).off + 3, none⟩ = some (.string y2) ∧ W.drew.cell? ⟨(b.add (k * 6)).block, (b.add (k * 6)).off + 4, none⟩ = some (.slice y3 y4 y5) ∧ W.drew.cell? ⟨(b.add (k * 6)).block, (b.add (k * 6)).off + 5, none⟩ = some (.slice y6 y7 y8)) := hide (unhide HYC)
                    refine till_begin (S := fun w' => w'.cell? (b.add (k * 6)) = some (.string yk) ∧ w'.cell? ⟨(b.add (k * 6)).block, (b.add (k * 6)).off + 1, none⟩ = some (.int .i64 y0) ∧ w'.cell? ⟨(b.add (k * 6)).block, (b.add (k * 6)).off + 2, none⟩ = some (.int .i64 y1) ∧ w'.cell? ⟨(b.add (k * 6)).block, (b.add (k * 6)).off + 3, none⟩ = some (.string y2) ∧ w'.cell? ⟨(b.add (k * 6)).block, (b.add (k * 6)).off + 4, none⟩ = some (.slice y3 y4 y5) ∧ w'.cell? ⟨(b.add (k * 6)).block, (b.add (k * 6)).off + 5, none⟩ = some (.slice y6 y7 y8)) 15 (by kernel_rfl) ?_
                    refine till_take 0 (v := .slice so q sc) (some 43) rfl rfl rfl (by kernel_rfl) (by kernel_rfl) (by kernel_rfl) (by kernel_rfl) (fun _ _ _ h => h) (Or.inl ⟨by rfl, fun u hu => by obtain ⟨b0, b1, b2, b3, b4, b5⟩ := hu; go_simp⟩) (unhide HS0) ?_
                    try simp only [Act.put, List.setIfInBounds_toArray, List.set_cons_zero, List.set_cons_succ]
                    refine till_take 1 (v := .slice (some b) m ck) (some 44) rfl rfl rfl (by kernel_rfl) (by kernel_rfl) (by kernel_rfl) (by kernel_rfl) (fun _ _ _ h => h) (Or.inl ⟨by rfl, fun u hu => by obtain ⟨b0, b1, b2, b3, b4, b5⟩ := hu; go_simp⟩) (unhide HS0) ?_
                    try simp only [Act.put, List.setIfInBounds_toArray, List.set_cons_zero, List.set_cons_succ]
                    refine till_take 2 (v := .int .i64 (k : Int)) (some 45) rfl rfl rfl (by kernel_rfl) (by kernel_rfl) (by kernel_rfl) (by kernel_rfl) (fun _ _ _ h => h) (Or.inl ⟨by rfl, fun u hu => by obtain ⟨b0, b1, b2, b3, b4, b5⟩ := hu; go_simp⟩) (unhide HS0) ?_
                    try simp only [Act.put, List.setIfInBounds_toArray, List.set_cons_zero, List.set_cons_succ]
                    refine till_take 3 (v := .pointer (some (b.add (k * 6)))) (some 46) rfl rfl rfl (by kernel_rfl) (by kernel_rfl) (by kernel_rfl) (by kernel_rfl) (fun _ _ _ h => h) (Or.inl ⟨by rfl, fun u hu => by obtain ⟨b0, b1, b2, b3, b4, b5⟩ := hu; go_simp⟩) (unhide HS0) ?_
                    try simp only [Act.put, List.setIfInBounds_toArray, List.set_cons_zero, List.set_cons_succ]
                    refine till_take 4 (v := .pointer (some (b.add (k * 6)))) (some 47) rfl rfl rfl (by kernel_rfl) (by kernel_rfl) (by kernel_rfl) (by kernel_rfl) (fun _ _ _ h => h) (Or.inl ⟨by rfl, fun u hu => by obtain ⟨b0, b1, b2, b3, b4, b5⟩ := hu; go_simp⟩) (unhide HS0) ?_
                    try simp only [Act.put, List.setIfInBounds_toArray, List.set_cons_zero, List.set_cons_succ]
                    refine till_take 5 (v := .string yk) (some 48) rfl rfl rfl (by kernel_rfl) (by kernel_rfl) (by kernel_rfl) (by kernel_rfl) (fun _ _ _ h => h) (Or.inl ⟨by rfl, fun u hu => by obtain ⟨b0, b1, b2, b3, b4, b5⟩ := hu; go_simp⟩) (unhide HS0) ?_
                    try simp only [Act.put, List.setIfInBounds_toArray, List.set_cons_zero, List.set_cons_succ]
                    refine till_take 6 (v := .slice (some b) m ck) (some 49) rfl rfl rfl (by kernel_rfl) (by kernel_rfl) (by kernel_rfl) (by kernel_rfl) (fun _ _ _ h => h) (Or.inl ⟨by rfl, fun u hu => by obtain ⟨b0, b1, b2, b3, b4, b5⟩ := hu; go_simp⟩) (unhide HS0) ?_
                    try simp only [Act.put, List.setIfInBounds_toArray, List.set_cons_zero, List.set_cons_succ]
                    refine till_take 7 (v := .int .i64 (k : Int)) (some 50) rfl rfl rfl (by kernel_rfl) (by kernel_rfl) (by kernel_rfl) (by kernel_rfl) (fun _ _ _ h => h) (Or.inl ⟨by rfl, fun u hu => by obtain ⟨b0, b1, b2, b3, b4, b5⟩ := hu; go_simp⟩) (unhide HS0) ?_
                    try simp only [Act.put, List.setIfInBounds_toArray, List.set_cons_zero, List.set_cons_succ]
                    refine till_take 8 (v := .pointer (some (b.add (k * 6)))) (some 51) rfl rfl rfl (by kernel_rfl) (by kernel_rfl) (by kernel_rfl) (by kernel_rfl) (fun _ _ _ h => h) (Or.inl ⟨by rfl, fun u hu => by obtain ⟨b0, b1, b2, b3, b4, b5⟩ := hu; go_simp⟩) (unhide HS0) ?_
                    try simp only [Act.put, List.setIfInBounds_toArray, List.set_cons_zero, List.set_cons_succ]
                    refine till_take 9 (v := .pointer (some ⟨(b.add (k * 6)).block, (b.add (k * 6)).off + 1, none⟩)) (some 52) rfl rfl rfl (by kernel_rfl) (by kernel_rfl) (by kernel_rfl) (by kernel_rfl) (fun _ _ _ h => h) (Or.inl ⟨by rfl, fun u hu => by obtain ⟨b0, b1, b2, b3, b4, b5⟩ := hu; go_simp⟩) (unhide HS0) ?_
                    try simp only [Act.put, List.setIfInBounds_toArray, List.set_cons_zero, List.set_cons_succ]
                    refine till_take 10 (v := .agg #[.int .i64 y0, .int .i64 y1, .string y2, .slice y3 y4 y5, .slice y6 y7 y8]) (some 53) rfl rfl rfl (by kernel_rfl) (by kernel_rfl) (by kernel_rfl) (by kernel_rfl) (fun _ _ _ h => h) (Or.inl ⟨by rfl, fun u hu => by obtain ⟨b0, b1, b2, b3, b4, b5⟩ := hu; go_simp⟩) (unhide HS0) ?_
                    try simp only [Act.put, List.setIfInBounds_toArray, List.set_cons_zero, List.set_cons_succ]
                    refine till_one 11 (by kernel_rfl) rfl (fun K hK => ?_)
                    go_simp
                    refine (unhide HCo W.drew (below_drew_to2 (Below.refl _ _))).mono ?_
                    rintro e W3 ⟨⟨d0, d1, d2, d3, d4, d5, d6, d7, d8⟩, rfl, b3, q3⟩
                    dsimp only [th5] at q3 ⊢
                    have X3 : Below W.heap.size W W3 := below_drew_of' b3
                    have HS3 : Hid (W3.cell? (b.add (k * 6)) = some (.string yk) ∧ W3.cell? ⟨(b.add (k * 6)).block, (b.add (k * 6)).off + 1, none⟩ = some (.int .i64 y0) ∧ W3.cell? ⟨(b.add (k * 6)).block, (b.add (k * 6)).off + 2, none⟩ = some (.int .i64 y1) ∧ W3.cell? ⟨(b.add (k * 6)).block, (b.add (k * 6)).off + 3, none⟩ = some (.string y2) ∧ W3.cell? ⟨(b.add (k * 6)).block, (b.add (k * 6)).off + 4, none⟩ = some (.slice y3 y4 y5) ∧ W3.cell? ⟨(b.add (k * 6)).block, (b.add (k * 6)).off + 5, none⟩ = some (.slice y6 y7 y8)) := hide ⟨cell_later X3 ((unhide HS0).1), cell_later X3 ((unhide HS0).2.1), cell_later X3 ((unhide HS0).2.2.1), cell_later X3 ((unhide HS0).2.2.2.1), cell_later X3 ((unhide HS0).2.2.2.2.1), cell_later X3 ((unhide HS0).2.2.2.2.2)⟩
                    have H3 : Hid (Below W.heap.size W W3 ∧ IsQ W3 (fun b => W.heap.size ≤ b ∧ b < W3.heap.size) yv (.agg #[.int .i64 d0, .int .i64 d1, .string d2, .slice d3 d4 d5, .slice d6 d7 d8])) := hide ⟨X3, q3⟩
                    clear b3 q3 X3
                    go_wp2_with fail
                    refine hK.out _ _ (Or.inr (unhide HS3)) ?_
                    clear hK K HS0
                    try simp only [Act.put, List.setIfInBounds_toArray, List.set_cons_zero, List.set_cons_succ]
                    refine till_one 12 (by kernel_rfl) rfl (fun K hK => ?_)
                    obtain ⟨b0, b1, b2, b3, b4, b5⟩ := unhide HS3
                    go_simp
                    refine hK.out _ _ (Or.inr (unhide HS3)) ?_
                    clear hK K b0 b1 b2 b3 b4 b5
                    try simp only [Act.put, List.setIfInBounds_toArray, List.set_cons_zero, List.set_cons_succ]
                    refine till_one 13 (by kernel_rfl) rfl (fun K hK => ?_)
                    go_simp
                    obtain ⟨W4, hW4⟩ : ∃ W4, W3.alloc (.cells #[.string yk, .bool false, .int .i64 d0, .int .i64 d1, .string d2, .slice d3 d4 d5, .slice d6 d7 d8] 36) = W4 := ⟨_, rfl⟩
                    have X4 : Below W3.heap.size W3 W4 := by rw [← hW4]; exact (Below.refl _ _).alloc (Nat.le_refl _) _
                    have at4 : W4.heap[W3.heap.size]? = some (.cells #[.string yk, .bool false, .int .i64 d0, .int .i64 d1, .string d2, .slice d3 d4 d5, .slice d6 d7 d8] 36 (0, 0)) := by rw [← hW4]; exact heap_alloc_new W3 _
                    try rw [hW4]
                    have HS4 : Hid (W4.cell? (b.add (k * 6)) = some (.string yk) ∧ W4.cell? ⟨(b.add (k * 6)).block, (b.add (k * 6)).off + 1, none⟩ = some (.int .i64 y0) ∧ W4.cell? ⟨(b.add (k * 6)).block, (b.add (k * 6)).off + 2, none⟩ = some (.int .i64 y1) ∧ W4.cell? ⟨(b.add (k * 6)).block, (b.add (k * 6)).off + 3, none⟩ = some (.string y2) ∧ W4.cell? ⟨(b.add (k * 6)).block, (b.add (k * 6)).off + 4, none⟩ = some (.slice y3 y4 y5) ∧ W4.cell? ⟨(b.add (k * 6)).block, (b.add (k * 6)).off + 5, none⟩ = some (.slice y6 y7 y8)) := hide ⟨cell_later X4 ((unhide HS3).1), cell_later X4 ((unhide HS3).2.1), cell_later X4 ((unhide HS3).2.2.1), cell_later X4 ((unhide HS3).2.2.2.1), cell_later X4 ((unhide HS3).2.2.2.2.1), cell_later X4 ((unhide HS3).2.2.2.2.2)⟩
                    have H4 : Hid (Below W.heap.size W W4 ∧ IsQ W4 (fun b => W.heap.size ≤ b ∧ b < W4.heap.size) yv (.agg #[.int .i64 d0, .int .i64 d1, .string d2, .slice d3 d4 d5, .slice d6 d7 d8])) := hide ⟨(unhide H3).1.trans (X4.mono (unhide H3).1.size), ((unhide H3).2.move (fun b hb => X4.block b hb.2)).weak (fun b hb => ⟨hb.1, Nat.lt_of_lt_of_le hb.2 X4.size⟩)⟩
                    obtain ⟨h3s, hh3s⟩ : ∃ h3s, W3.heap.size = h3s := ⟨_, rfl⟩
                    rw [hh3s] at at4
                    try rw [hh3s]
                    refine hK.out _ _ (Or.inr (unhide HS4)) ?_
                    clear hK K hW4 X4 hh3s HS3 H3
                    try simp only [Act.put, List.setIfInBounds_toArray, List.set_cons_zero, List.set_cons_succ]
                    refine till_one 14 (by kernel_rfl) rfl (fun K hK => ?_)
                    refine step_append_lies _ (by rfl) _ _ 25 (by rfl) lo 36 iv (.agg #[.string ⟨#[]⟩, .bool false, .int .i64 0, .int .i64 0, .string ⟨#[]⟩, .slice none 0 0, .slice none 0 0]) 7 104 Try.underlying25 (unhide HI).1 (unhide HI).2.1 (unhide HI).2.2.1 (unhide HI).2.2.2 rfl (by omega) (.slice so q sc) q CS (by rfl) (unhide HOW W4 (unhide H4).1) ⟨h3s, 0, none⟩ 1 1 [.string yk, .bool false, .int .i64 d0, .int .i64 d1, .string d2, .slice d3 d4 d5, .slice d6 d7 d8] (by rfl) (by rfl) (World.news_of_block at4) (by simp [Value.oneCell']) (by omega) (by unfold maxLen; omega) (by omega) (Nat.le_trans hloW (unhide H4).1.size) _ rfl ?_
                    intro g5 cap5 W5 hown5 hgrow5 hat5 hlt5
                    change K (Act.put _ (some 57) _) W5
                    have HS5 : Hid (W5.cell? (b.add (k * 6)) = some (.string yk) ∧ W5.cell? ⟨(b.add (k * 6)).block, (b.add (k * 6)).off + 1, none⟩ = some (.int .i64 y0) ∧ W5.cell? ⟨(b.add (k * 6)).block, (b.add (k * 6)).off + 2, none⟩ = some (.int .i64 y1) ∧ W5.cell? ⟨(b.add (k * 6)).block, (b.add (k * 6)).off + 3, none⟩ = some (.string y2) ∧ W5.cell? ⟨(b.add (k * 6)).block, (b.add (k * 6)).off + 4, none⟩ = some (.slice y3 y4 y5) ∧ W5.cell? ⟨(b.add (k * 6)).block, (b.add (k * 6)).off + 5, none⟩ = some (.slice y6 y7 y8)) := hide ⟨(hgrow5.cell_far (b.add (k * 6)) (Nat.lt_of_lt_of_le (unhide HYB).1 (unhide H4).1.size) (unhide HYB).2).trans ((unhide HS4).1), (hgrow5.cell_far ⟨(b.add (k * 6)).block, (b.add (k * 6)).off + 1, none⟩ (Nat.lt_of_lt_of_le (unhide HYB).1 (unhide H4).1.size) (unhide HYB).2).trans ((unhide HS4).2.1), (hgrow5.cell_far ⟨(b.add (k * 6)).block, (b.add (k * 6)).off + 2, none⟩ (Nat.lt_of_lt_of_le (unhide HYB).1 (unhide H4).1.size) (unhide HYB).2).trans ((unhide HS4).2.2.1), (hgrow5.cell_far ⟨(b.add (k * 6)).block, (b.add (k * 6)).off + 3, none⟩ (Nat.lt_of_lt_of_le (unhide HYB).1 (unhide H4).1.size) (unhide HYB).2).trans ((unhide HS4).2.2.2.1), (hgrow5.cell_far ⟨(b.add (k * 6)).block, (b.add (k * 6)).off + 4, none⟩ (Nat.lt_of_lt_of_le (unhide HYB).1 (unhide H4).1.size) (unhide HYB).2).trans ((unhide HS4).2.2.2.2.1), (hgrow5.cell_far ⟨(b.add (k * 6)).block, (b.add (k * 6)).off + 5, none⟩ (Nat.lt_of_lt_of_le (unhide HYB).1 (unhide H4).1.size) (unhide HYB).2).trans ((unhide HS4).2.2.2.2.2)⟩
                    have H5 := hide (And.intro hown5 (And.intro hgrow5 hat5))
                    refine hK.out _ _ (Or.inr (unhide HS5)) ?_
                    clear hK K hown5 hgrow5 hat5 hlt5 HS4
                    try simp only [Act.put, List.setIfInBounds_toArray, List.set_cons_zero, List.set_cons_succ]
                    refine till_one 15 (by kernel_rfl) rfl (fun K hK => ?_)
                    obtain ⟨b0, b1, b2, b3, b4, b5⟩ := unhide HS5
                    go_simp
                    refine hK.out _ _ (Or.inl (by first | rfl | trivial)) ?_
                    clear hK K b0 b1 b2 b3 b4 b5
                    try simp only [Act.put, List.setIfInBounds_toArray, List.set_cons_zero, List.set_cons_succ]
                    refine till_done (by kernel_rfl) ?_ _
                    have RR := hide (unhide HEND W4 W5 g5 cap5 (d0, d1, d2, d3, d4, d5, d6, d7, d8) (unhide H4).1 (unhide H4).2 (unhide H5).1 (unhide H5).2.1 (unhide H5).2.2)
                    clear HEND H4 H5 HOW HI HS5 at4 HYC HYB HCo
                    go_wp2_with fail
                    go_roundw
                    case rel => exact ⟨i + 1, k + 1, _, _, _, rfl, by go_num, by go_num, hide ⟨by omega, by omega⟩, RR⟩
                    case measure => simp [intOf]; omega
      · have ekb : ((k : Int) == (m : Int)) = true := beq_iff_eq.2 (by omega)
        have HDF : Hid (dfL (es.length + fs.length - (i + k)) (es.drop i) (fs.drop k) = (xk, true, vl0) :: dfL (es.length + fs.length - (i + 1 + k)) (es.drop (i + 1)) (fs.drop k)) := hide (df_gone hx (by have := unhide HN; omega) (Or.inl (by have := unhide HN; omega)))
        clear xe ye hx hkm
        go_upto_region 13 with fail
        go_cut [62] from 21 to 131 (fun r wx => r = .bool true ∧ ∃ q, wx = wr.drewN q)
        case first =>
          go_quiet (fail)
          go_wp2_with fail
          go_meet
          exact ⟨rfl, _, rfl⟩
        case rest =>
          obtain ⟨rfl, q1, hwc⟩ := hcut
          have HWr : Hid (Below wr.heap.size wr wc) := hide (by rw [hwc]; exact below_drewD (Below.refl _ _) _)
          clear hwc
          obtain ⟨W, hWW⟩ : ∃ W, wc = W := ⟨_, rfl⟩
          rw [hWW] at HWr
          rw [hWW]
          clear hWW
          have h2W := h2.later (unhide HWr)
          have hDb : Below w.heap.size w W := h5.trans ((unhide HWr).mono h5.size)
          have z0 : W.cell? (a.add (i * 6)) = some (.string xk) := cell_later (unhide HWr) xc0
          obtain ⟨CS, hCS⟩ : ∃ CS, cellsC cs = CS := ⟨_, rfl⟩
          obtain ⟨lo, hlo⟩ : ∃ lo, w.heap.size = lo := ⟨_, rfl⟩
          obtain ⟨h3s, hh3s⟩ : ∃ h3s, W.heap.size = h3s := ⟨_, rfl⟩
          obtain ⟨W4, hW4⟩ : ∃ W4, W.alloc (.cells #[.string xk, .bool true, .int .i64 0, .int .i64 0, .string ⟨#[]⟩, .slice none 0 0, .slice none 0 0] 36) = W4 := ⟨_, rfl⟩
          have X4 : Below W.heap.size W W4 := by rw [← hW4]; exact (Below.refl _ _).alloc (Nat.le_refl _) _
          have at4 : W4.heap[h3s]? = some (.cells #[.string xk, .bool true, .int .i64 0, .int .i64 0, .string ⟨#[]⟩, .slice none 0 0, .slice none 0 0] 36 (0, 0)) := by rw [← hW4, ← hh3s]; exact heap_alloc_new W _
          have HOW : Hid (W4.ownsRow lo 36 7 (.slice so q sc) q CS) := hide (by
            have := (h2W.later X4).row
            rw [hq, hCS, hlo] at this
            exact this)
          have hloW : lo ≤ W4.heap.size := by have := hDb.size; have := X4.size; omega
          obtain ⟨iv, hiv, hz0, hz1, hz2⟩ := info_parts infoCh
          have HI := hide (And.intro hiv (And.intro hz0 (And.intro hz1 hz2)))
          have HEND : Hid (∀ (W5 : World) (g5 cap5 : Nat), W5.ownsRow lo 36 7 (.slice (some ⟨g5, 0, none⟩) (q + 1) cap5) (q + 1) (CS ++ [.string xk, .bool true, .int .i64 0, .int .i64 0, .string ⟨#[]⟩, .slice none 0 0, .slice none 0 0]) → W4.grownBy W5 (Value.slice so q sc).ownBlock → ((Value.slice so q sc).ownBlock = some g5 ∨ g5 = W4.heap.size) → RdI w W5 es fs DF (.slice (some ⟨g5, 0, none⟩) (q + 1) cap5) (q + 1) (i + 1) k) := hide (by
            intro W5 g5 cap5 o5 g5' a5
            rw [← hlo, ← hCS] at o5
            have hpush := h2W.push (k := xk) (gg := true) (c := (0, 0, ⟨#[]⟩, none, 0, 0, none, 0, 0)) (y := vl0) hq X4 hDb.size (zero_qD _ _) o5 g5' a5
            refine ⟨_, hpush, by simp [hq], by omega, ?_, hDb.trans (((X4.mono hDb.size)).trans ?_)⟩
            · rw [List.map_append, List.append_assoc, ← h3, unhide HDF]
              rfl
            · exact (Below.refl _ _).grown g5' (by have := hDb.size; have := X4.size; omega) (fun b hb => (h2.row.lt b hb).1))
          have hq256 : q ≤ 256 := by have := unhide HI1; omega
          have tokG : True := trivial
          clear h2 h2W h3 h5 hDb hq hqi hCS hiv hz0 hz1 hz2 HX X4 hlo xc0 xc1 xc2 xc3 xc4 xc5
          go_wp2_with (first | (have _t := tokG; refine wpList_append_lies W4 rfl _ _ 25 rfl lo 36 iv (.agg #[.string ⟨#[]⟩, .bool false, .int .i64 0, .int .i64 0, .string ⟨#[]⟩, .slice none 0 0, .slice none 0 0]) 7 104 Try.underlying25 (unhide HI).1 (unhide HI).2.1 (unhide HI).2.2.1 (unhide HI).2.2.2 rfl (by omega) (.slice so q sc) q CS (by rfl) (unhide HOW) ⟨h3s, 0, none⟩ 1 1 [.string xk, .bool true, .int .i64 0, .int .i64 0, .string ⟨#[]⟩, .slice none 0 0, .slice none 0 0] (by rfl) (by rfl) (World.news_of_block at4) (by simp [Value.oneCell']) (by omega) (by unfold maxLen; omega) (by omega) hloW _ rfl ?_; intro g5 cap5 W5 hown5 hgrow5 hat5 hlt5; clear tokG; have RR := hide (unhide HEND W5 g5 cap5 hown5 hgrow5 hat5); clear hown5 hgrow5 hat5 hlt5))
          go_roundw
          case rel => exact ⟨i + 1, k, _, _, _, rfl, by go_num, rfl, hide ⟨by omega, by omega⟩, RR⟩
          case measure => simp [intOf]; omega
    · by_cases hkm : k < m
      · obtain ⟨yk, yv, hy⟩ := ye hkm
        obtain ⟨b, y0, y1, y2, y3, y6, y4, y7, y5, y8, rfl, hbb, _, hcy, hpy⟩ := (unhide HF wr h5).elem k _ hy
        dsimp only at hcy hpy
        have yc0 : wr.cell? (b.add (k * 6)) = some (.string yk) := hcy 0 _ rfl
        have yc1 : wr.cell? ⟨(b.add (k * 6)).block, (b.add (k * 6)).off + 1, none⟩ = some (.int .i64 y0) := hcy 1 _ rfl
        have yc2 : wr.cell? ⟨(b.add (k * 6)).block, (b.add (k * 6)).off + 2, none⟩ = some (.int .i64 y1) := hcy 2 _ rfl
        have yc3 : wr.cell? ⟨(b.add (k * 6)).block, (b.add (k * 6)).off + 3, none⟩ = some (.string y2) := hcy 3 _ rfl
        have yc4 : wr.cell? ⟨(b.add (k * 6)).block, (b.add (k * 6)).off + 4, none⟩ = some (.slice y3 y4 y5) := hcy 4 _ rfl
        have yc5 : wr.cell? ⟨(b.add (k * 6)).block, (b.add (k * 6)).off + 5, none⟩ = some (.slice y6 y7 y8) := hcy 5 _ rfl
        have HVY : Hid (IsV wr B yv (.agg #[.int .i64 y0, .int .i64 y1, .string y2, .slice y3 y4 y5, .slice y6 y7 y8])) := hide hpy
        have HYR : Hid (1 ≤ yk.size ∧ yk.size ≤ 32 ∧ rightB yv = true) := hide (by have hent := unhide HRF _ (List.mem_of_getElem? hy); unfold entB at hent; simp only [Bool.and_eq_true, decide_eq_true_eq] at hent; exact ⟨hent.1.1, hent.1.2, hent.2⟩)
        clear hcy hpy
        have j2 : (k : Int) < (m : Int) := by omega
        have j1 : ¬ (i : Int) < (n : Int) := by omega
        have ekb : ((k : Int) == (m : Int)) = false := beq_eq_false_iff_ne.2 (by omega)
        have eib : ((i : Int) == (n : Int)) = true := beq_iff_eq.2 (by omega)
        have HDF : Hid (dfL (es.length + fs.length - (i + k)) (es.drop i) (fs.drop k) = (yk, false, yv) :: dfL (es.length + fs.length - (i + (k + 1))) (es.drop i) (fs.drop (k + 1))) := hide (df_put hy (by have := unhide HN; omega) (Or.inl (by have := unhide HN; omega)))
        clear xe ye hy hik
        go_upto_region 13 with fail
        go_cut [62] from 21 to 131 (fun r wx => r = .bool false ∧ ∃ q, wx = wr.drewN q)
        case first =>
          go_quiet (fail)
          go_wp2_with fail
          go_meet
          exact ⟨rfl, _, rfl⟩
        case rest =>
          obtain ⟨rfl, q1, hwc⟩ := hcut
          have HW1 : Hid (Below wr.heap.size wr wc) := hide (by rw [hwc]; exact below_drewD (Below.refl _ _) _)
          clear hwc
          obtain ⟨V1, hV1⟩ : ∃ W, wc = W := ⟨_, rfl⟩
          rw [hV1] at HW1
          rw [hV1]
          clear hV1
          have w0y : V1.cell? (b.add (k * 6)) = some (.string yk) := cell_later (unhide HW1) yc0
          go_upto_region 16 with fail
          go_cut [97] from 21 to 131 (fun r wx => r = .bool true ∧ ∃ q, wx = V1.drewN q)
          case first =>
            go_quiet (fail)
            go_wp2_with fail
            go_meet
            exact ⟨rfl, _, rfl⟩
          case rest =>
            obtain ⟨rfl, q2, hwc⟩ := hcut
            have HWr : Hid (Below wr.heap.size wr wc) := hide (by rw [hwc]; exact below_drewD (unhide HW1) _)
            clear hwc HW1
            obtain ⟨W, hWW⟩ : ∃ W, wc = W := ⟨_, rfl⟩
            rw [hWW] at HWr
            rw [hWW]
            clear hWW
            have h2W := h2.later (unhide HWr)
            have hDb : Below w.heap.size w W := h5.trans ((unhide HWr).mono h5.size)
            have HYC : Hid (W.cell? (b.add (k * 6)) = some (.string yk) ∧ W.cell? ⟨(b.add (k * 6)).block, (b.add (k * 6)).off + 1, none⟩ = some (.int .i64 y0) ∧ W.cell? ⟨(b.add (k * 6)).block, (b.add (k * 6)).off + 2, none⟩ = some (.int .i64 y1) ∧ W.cell? ⟨(b.add (k * 6)).block, (b.add (k * 6)).off + 3, none⟩ = some (.string y2) ∧ W.cell? ⟨(b.add (k * 6)).block, (b.add (k * 6)).off + 4, none⟩ = some (.slice y3 y4 y5) ∧ W.cell? ⟨(b.add (k * 6)).block, (b.add (k * 6)).off + 5, none⟩ = some (.slice y6 y7 y8)) := hide ⟨cell_later (unhide HWr) yc0, cell_later (unhide HWr) yc1, cell_later (unhide HWr) yc2, cell_later (unhide HWr) yc3, cell_later (unhide HWr) yc4, cell_later (unhide HWr) yc5⟩
            have HYB : Hid ((b.add (k * 6)).block < W.heap.size ∧ some (b.add (k * 6)).block ≠ (Value.slice so q sc).ownBlock) := hide ⟨by have := hDb.size; have := unhide HB; rw [block_add]; omega, fun e => by rw [block_add] at e; have := (h2.row.lt b.block e.symm).1; have := unhide HB; omega⟩
            have HCo : Hid (∀ u, Below W.heap.size W u → Calls Try.prog 27 #[.agg #[.int .i64 y0, .int .i64 y1, .string y2, .slice y3 y4 y5, .slice y6 y7 y8]] u fun e w' => ∃ d : Th5, e = .returned (.agg (th5 d).toArray) ∧ Below u.heap.size u w' ∧ IsQ w' (fun b => u.heap.size ≤ b ∧ b < w'.heap.size) yv (.agg (th5 d).toArray)) := hide (fun u hu => by
              refine (copyD_any yv _ B u (IsV.mono (((unhide HWr).trans (hu.mono (unhide HWr).size)).mono (Nat.le_trans (unhide HB) h5.size)) (unhide HVY)) (Nat.le_trans (unhide HB) (hDb.trans (hu.mono hDb.size)).size)).mono ?_
              rintro e w' ⟨x', rfl, bb, qq, -⟩
              have hq := qq (unhide HYR).2.2
              obtain ⟨d, rfl⟩ := isP_th5 hq.1
              exact ⟨d, rfl, bb, hq⟩)
            obtain ⟨CS, hCS⟩ : ∃ CS, cellsC cs = CS := ⟨_, rfl⟩
            obtain ⟨lo, hlo⟩ : ∃ lo, w.heap.size = lo := ⟨_, rfl⟩
            have HOW : Hid (∀ u, Below W.heap.size W u → u.ownsRow lo 36 7 (.slice so q sc) q CS) := hide (fun u hu => by
              have := (h2W.later hu).row
              rw [hq, hCS, hlo] at this
              exact this)
            have hloW : lo ≤ W.heap.size := by have := hDb.size; omega
            obtain ⟨iv, hiv, hz0, hz1, hz2⟩ := info_parts infoCh
            have HI := hide (And.intro hiv (And.intro hz0 (And.intro hz1 hz2)))
            have HEND : Hid (∀ (W4 W5 : World) (g5 cap5 : Nat) (c : Th5), Below W.heap.size W W4 → IsQ W4 (fun b => W.heap.size ≤ b ∧ b < W4.heap.size) yv (.agg (th5 c).toArray) → W5.ownsRow lo 36 7 (.slice (some ⟨g5, 0, none⟩) (q + 1) cap5) (q + 1) (CS ++ (.string yk :: .bool false :: th5 c)) → W4.grownBy W5 (Value.slice so q sc).ownBlock → ((Value.slice so q sc).ownBlock = some g5 ∨ g5 = W4.heap.size) → RdI w W5 es fs DF (.slice (some ⟨g5, 0, none⟩) (q + 1) cap5) (q + 1) i (k + 1)) := hide (by
              intro W4 W5 g5 cap5 c b4 q4 o5 g5' a5
              rw [← hlo, ← hCS] at o5
              have hpush := h2W.push (k := yk) (gg := false) (c := c) (y := yv) hq b4 hDb.size q4 o5 g5' a5
              refine ⟨_, hpush, by simp [hq], by omega, ?_, hDb.trans (((b4.mono hDb.size)).trans ?_)⟩
              · rw [List.map_append, List.append_assoc, ← h3, unhide HDF]
                rfl
              · exact (Below.refl _ _).grown g5' (by have := hDb.size; have := b4.size; omega) (fun b hb => (h2.row.lt b hb).1))
            have hq256 : q ≤ 256 := by have := unhide HI1; omega
            clear h2 h2W h3 h5 hDb hq hqi hCS hiv hz0 hz1 hz2 HX
            clear yc0 yc1 yc2 yc3 yc4 yc5 w0y
            go_upto_region 17 with fail
            have HS0 : Hid (W.drew.cell? (b.add (k * 6)) = some (.string yk) ∧ W.drew.cell? ⟨(b.add (k * 6)).block, (b.add (k * 6)).off + 1, none⟩ = some (.int .i64 y0) ∧ W.drew.cell? ⟨(b.add (k * 6)).block, (b.add (k * 6)).off + 2, none⟩ = some (.int .i64 y1) ∧ W.drew.cell? ⟨(b.add (k * 6)).block, (b.add (k * 6)).off + 3, none⟩ = some (.string y2) ∧ W.drew.cell? ⟨(b.add (k * 6)).block, (b.add (k * 6)).off + 4, none⟩ = some (.slice y3 y4 y5) ∧ W.drew.cell? ⟨(b.add (k * 6)).block, (b.add (k * 6)).off + 5, none⟩ = some (.slice y6 y7 y8)) := hide (unhide HYC)
            refine till_begin (S := fun w' => w'.cell? (b.add (k * 6)) = some (.string yk) ∧ w'.cell? ⟨(b.add (k * 6)).block, (b.add (k * 6)).off + 1, none⟩ = some (.int .i64 y0) ∧ w'.cell? ⟨(b.add (k * 6)).block, (b.add (k * 6)).off + 2, none⟩ = some (.int .i64 y1) ∧ w'.cell? ⟨(b.add (k * 6)).block, (b.add (k * 6)).off + 3, none⟩ = some (.string y2) ∧ w'.cell? ⟨(b.add (k * 6)).block, (b.add (k * 6)).off + 4, none⟩ = some (.slice y3 y4 y5) ∧ w'.cell? ⟨(b.add (k * 6)).block, (b.add (k * 6)).off + 5, none⟩ = some (.slice y6 y7 y8)) 15 (by kernel_rfl) ?_
            refine till_take 0 (v := .slice so q sc) (some 115) rfl rfl rfl (by kernel_rfl) (by kernel_rfl) (by kernel_rfl) (by kernel_rfl) (fun _ _ _ h => h) (Or.inl ⟨by rfl, fun u hu => by obtain ⟨b0, b1, b2, b3, b4, b5⟩ := hu; go_simp⟩) (unhide HS0) ?_
            try simp only [Act.put, List.setIfInBounds_toArray, List.set_cons_zero, List.set_cons_succ]
            refine till_take 1 (v := .slice (some b) m ck) (some 116) rfl rfl rfl (by kernel_rfl) (by kernel_rfl) (by kernel_rfl) (by kernel_rfl) (fun _ _ _ h => h) (Or.inl ⟨by rfl, fun u hu => by obtain ⟨b0, b1, b2, b3, b4, b5⟩ := hu; go_simp⟩) (unhide HS0) ?_
            try simp only [Act.put, List.setIfInBounds_toArray, List.set_cons_zero, List.set_cons_succ]
            refine till_take 2 (v := .int .i64 (k : Int)) (some 117) rfl rfl rfl (by kernel_rfl) (by kernel_rfl) (by kernel_rfl) (by kernel_rfl) (fun _ _ _ h => h) (Or.inl ⟨by rfl, fun u hu => by obtain ⟨b0, b1, b2, b3, b4, b5⟩ := hu; go_simp⟩) (unhide HS0) ?_
            try simp only [Act.put, List.setIfInBounds_toArray, List.set_cons_zero, List.set_cons_succ]
            refine till_take 3 (v := .pointer (some (b.add (k * 6)))) (some 118) rfl rfl rfl (by kernel_rfl) (by kernel_rfl) (by kernel_rfl) (by kernel_rfl) (fun _ _ _ h => h) (Or.inl ⟨by rfl, fun u hu => by obtain ⟨b0, b1, b2, b3, b4, b5⟩ := hu; go_simp⟩) (unhide HS0) ?_
            try simp only [Act.put, List.setIfInBounds_toArray, List.set_cons_zero, List.set_cons_succ]
            refine till_take 4 (v := .pointer (some (b.add (k * 6)))) (some 119) rfl rfl rfl (by kernel_rfl) (by kernel_rfl) (by kernel_rfl) (by kernel_rfl) (fun _ _ _ h => h) (Or.inl ⟨by rfl, fun u hu => by obtain ⟨b0, b1, b2, b3, b4, b5⟩ := hu; go_simp⟩) (unhide HS0) ?_
            try simp only [Act.put, List.setIfInBounds_toArray, List.set_cons_zero, List.set_cons_succ]
            refine till_take 5 (v := .string yk) (some 120) rfl rfl rfl (by kernel_rfl) (by kernel_rfl) (by kernel_rfl) (by kernel_rfl) (fun _ _ _ h => h) (Or.inl ⟨by rfl, fun u hu => by obtain ⟨b0, b1, b2, b3, b4, b5⟩ := hu; go_simp⟩) (unhide HS0) ?_
            try simp only [Act.put, List.setIfInBounds_toArray, List.set_cons_zero, List.set_cons_succ]
            refine till_take 6 (v := .slice (some b) m ck) (some 121) rfl rfl rfl (by kernel_rfl) (by kernel_rfl) (by kernel_rfl) (by kernel_rfl) (fun _ _ _ h => h) (Or.inl ⟨by rfl, fun u hu => by obtain ⟨b0, b1, b2, b3, b4, b5⟩ := hu; go_simp⟩) (unhide HS0) ?_
            try simp only [Act.put, List.setIfInBounds_toArray, List.set_cons_zero, List.set_cons_succ]
            refine till_take 7 (v := .int .i64 (k : Int)) (some 122) rfl rfl rfl (by kernel_rfl) (by kernel_rfl) (by kernel_rfl) (by kernel_rfl) (fun _ _ _ h => h) (Or.inl ⟨by rfl, fun u hu => by obtain ⟨b0, b1, b2, b3, b4, b5⟩ := hu; go_simp⟩) (unhide HS0) ?_
            try simp only [Act.put, List.setIfInBounds_toArray, List.set_cons_zero, List.set_cons_succ]
            refine till_take 8 (v := .pointer (some (b.add (k * 6)))) (some 123) rfl rfl rfl (by kernel_rfl) (by kernel_rfl) (by kernel_rfl) (by kernel_rfl) (fun _ _ _ h => h) (Or.inl ⟨by rfl, fun u hu => by obtain ⟨b0, b1, b2, b3, b4, b5⟩ := hu; go_simp⟩) (unhide HS0) ?_
            try simp only [Act.put, List.setIfInBounds_toArray, List.set_cons_zero, List.set_cons_succ]
            refine till_take 9 (v := .pointer (some ⟨(b.add (k * 6)).block, (b.add (k * 6)).off + 1, none⟩)) (some 124) rfl rfl rfl (by kernel_rfl) (by kernel_rfl) (by kernel_rfl) (by kernel_rfl) (fun _ _ _ h => h) (Or.inl ⟨by rfl, fun u hu => by obtain ⟨b0, b1, b2, b3, b4, b5⟩ := hu; go_simp⟩) (unhide HS0) ?_
            try simp only [Act.put, List.setIfInBounds_toArray, List.set_cons_zero, List.set_cons_succ]
            refine till_take 10 (v := .agg #[.int .i64 y0, .int .i64 y1, .string y2, .slice y3 y4 y5, .slice y6 y7 y8]) (some 125) rfl rfl rfl (by kernel_rfl) (by kernel_rfl) (by kernel_rfl) (by kernel_rfl) (fun _ _ _ h => h) (Or.inl ⟨by rfl, fun u hu => by obtain ⟨b0, b1, b2, b3, b4, b5⟩ := hu; go_simp⟩) (unhide HS0) ?_
            try simp only [Act.put, List.setIfInBounds_toArray, List.set_cons_zero, List.set_cons_succ]
            refine till_one 11 (by kernel_rfl) rfl (fun K hK => ?_)
            go_simp
            refine (unhide HCo W.drew (below_drew_to2 (Below.refl _ _))).mono ?_
            rintro e W3 ⟨⟨d0, d1, d2, d3, d4, d5, d6, d7, d8⟩, rfl, b3, q3⟩
            dsimp only [th5] at q3 ⊢
            have X3 : Below W.heap.size W W3 := below_drew_of' b3
            have HS3 : Hid (W3.cell? (b.add (k * 6)) = some (.string yk) ∧ W3.cell? ⟨(b.add (k * 6)).block, (b.add (k * 6)).off + 1, none⟩ = some (.int .i64 y0) ∧ W3.cell? ⟨(b.add (k * 6)).block, (b.add (k * 6)).off + 2, none⟩ = some (.int .i64 y1) ∧ W3.cell? ⟨(b.add (k * 6)).block, (b.add (k * 6)).off + 3, none⟩ = some (.string y2) ∧ W3.cell? ⟨(b.add (k * 6)).block, (b.add (k * 6)).off + 4, none⟩ = some (.slice y3 y4 y5) ∧ W3.cell? ⟨(b.add (k * 6)).block, (b.add (k * 6)).off + 5, none⟩ = some (.slice y6 y7 y8)) := hide ⟨cell_later X3 ((unhide HS0).1), cell_later X3 ((unhide HS0).2.1), cell_later X3 ((unhide HS0).2.2.1), cell_later X3 ((unhide HS0).2.2.2.1), cell_later X3 ((unhide HS0).2.2.2.2.1), cell_later X3 ((unhide HS0).2.2.2.2.2)⟩
            have H3 : Hid (Below W.heap.size W W3 ∧ IsQ W3 (fun b => W.heap.size ≤ b ∧ b < W3.heap.size) yv (.agg #[.int .i64 d0, .int .i64 d1, .string d2, .slice d3 d4 d5, .slice d6 d7 d8])) := hide ⟨X3, q3⟩
            clear b3 q3 X3
            go_wp2_with fail
            refine hK.out _ _ (Or.inr (unhide HS3)) ?_
            clear hK K HS0
            try simp only [Act.put, List.setIfInBounds_toArray, List.set_cons_zero, List.set_cons_succ]
            refine till_one 12 (by kernel_rfl) rfl (fun K hK => ?_)
            obtain ⟨b0, b1, b2, b3, b4, b5⟩ := unhide HS3
            go_simp
            refine hK.out _ _ (Or.inr (unhide HS3)) ?_
            clear hK K b0 b1 b2 b3 b4 b5
            try simp only [Act.put, List.setIfInBounds_toArray, List.set_cons_zero, List.set_cons_succ]
            refine till_one 13 (by kernel_rfl) rfl (fun K hK => ?_)
            go_simp
            obtain ⟨W4, hW4⟩ : ∃ W4, W3.alloc (.cells #[.string yk, .bool false, .int .i64 d0, .int .i64 d1, .string d2, .slice d3 d4 d5, .slice d6 d7 d8] 36) = W4 := ⟨_, rfl⟩
            have X4 : Below W3.heap.size W3 W4 := by rw [← hW4]; exact (Below.refl _ _).alloc (Nat.le_refl _) _
            have at4 : W4.heap[W3.heap.size]? = some (.cells #[.string yk, .bool false, .int .i64 d0, .int .i64 d1, .string d2, .slice d3 d4 d5, .slice d6 d7 d8] 36 (0, 0)) := by rw [← hW4]; exact heap_alloc_new W3 _
            try rw [hW4]
            have HS4 : Hid (W4.cell? (b.add (k * 6)) = some (.string yk) ∧ W4.cell? ⟨(b.add (k * 6)).block, (b.add (k * 6)).off + 1, none⟩ = some (.int .i64 y0) ∧ W4.cell? ⟨(b.add (k * 6)).block, (b.add (k * 6)).off + 2, none⟩ = some (.int .i64 y1) ∧ W4.cell? ⟨(b.add (k * 6)).block, (b.add (k * 6)).off + 3, none⟩ = some (.string y2) ∧ W4.cell? ⟨(b.add (k * 6)).block, (b.add (k * 6)).off + 4, none⟩ = some (.slice y3 y4 y5) ∧ W4.cell? ⟨(b.add (k * 6)).block, (b.add (k * 6)).off + 5, none⟩ = some (.slice y6 y7 y8)) := hide ⟨cell_later X4 ((unhide HS3).1), cell_later X4 ((unhide HS3).2.1), cell_later X4 ((unhide HS3).2.2.1), cell_later X4 ((unhide HS3).2.2.2.1), cell_later X4 ((unhide HS3).2.2.2.2.1), cell_later X4 ((unhide HS3).2.2.2.2.2)⟩
            have H4 : Hid (Below W.heap.size W W4 ∧ IsQ W4 (fun b => W.heap.size ≤ b ∧ b < W4.heap.size) yv (.agg #[.int .i64 d0, .int .i64 d1, .string d2, .slice d3 d4 d5, .slice d6 d7 d8])) := hide ⟨(unhide H3).1.trans (X4.mono (unhide H3).1.size), ((unhide H3).2.move (fun b hb => X4.block b hb.2)).weak (fun b hb => ⟨hb.1, Nat.lt_of_lt_of_le hb.2 X4.size⟩)⟩
            obtain ⟨h3s, hh3s⟩ : ∃ h3s, W3.heap.size = h3s := ⟨_, rfl⟩
            rw [hh3s] at at4
            try rw [hh3s]
            refine hK.out _ _ (Or.inr (unhide HS4)) ?_
            clear hK K hW4 X4 hh3s HS3 H3
            try simp only [Act.put, List.setIfInBounds_toArray, List.set_cons_zero, List.set_cons_succ]
            refine till_one 14 (by kernel_rfl) rfl (fun K hK => ?_)
            refine step_append_lies _ (by rfl) _ _ 25 (by rfl) lo 36 iv (.agg #[.string ⟨#[]⟩, .bool false, .int .i64 0, .int .i64 0, .string ⟨#[]⟩, .slice none 0 0, .slice none 0 0]) 7 104 Try.underlying25 (unhide HI).1 (unhide HI).2.1 (unhide HI).2.2.1 (unhide HI).2.2.2 rfl (by omega) (.slice so q sc) q CS (by rfl) (unhide HOW W4 (unhide H4).1) ⟨h3s, 0, none⟩ 1 1 [.string yk, .bool false, .int .i64 d0, .int .i64 d1, .string d2, .slice d3 d4 d5, .slice d6 d7 d8] (by rfl) (by rfl) (World.news_of_block at4) (by simp [Value.oneCell']) (by omega) (by unfold maxLen; omega) (by omega) (Nat.le_trans hloW (unhide H4).1.size) _ rfl ?_
            intro g5 cap5 W5 hown5 hgrow5 hat5 hlt5
            change K (Act.put _ (some 129) _) W5
            have HS5 : Hid (W5.cell? (b.add (k * 6)) = some (.string yk) ∧ W5.cell? ⟨(b.add (k * 6)).block, (b.add (k * 6)).off + 1, none⟩ = some (.int .i64 y0) ∧ W5.cell? ⟨(b.add (k * 6)).block, (b.add (k * 6)).off + 2, none⟩ = some (.int .i64 y1) ∧ W5.cell? ⟨(b.add (k * 6)).block, (b.add (k * 6)).off + 3, none⟩ = some (.string y2) ∧ W5.cell? ⟨(b.add (k * 6)).block, (b.add (k * 6)).off + 4, none⟩ = some (.slice y3 y4 y5) ∧ W5.cell? ⟨(b.add (k * 6)).block, (b.add (k * 6)).off + 5, none⟩ = some (.slice y6 y7 y8)) := hide ⟨(hgrow5.cell_far (b.add (k * 6)) (Nat.lt_of_lt_of_le (unhide HYB).1 (unhide H4).1.size) (unhide HYB).2).trans ((unhide HS4).1), (hgrow5.cell_far ⟨(b.add (k * 6)).block, (b.add (k * 6)).off + 1, none⟩ (Nat.lt_of_lt_of_le (unhide HYB).1 (unhide H4).1.size) (unhide HYB).2).trans ((unhide HS4).2.1), (hgrow5.cell_far ⟨(b.add (k * 6)).block, (b.add (k * 6)).off + 2, none⟩ (Nat.lt_of_lt_of_le (unhide HYB).1 (unhide H4).1.size) (unhide HYB).2).trans ((unhide HS4).2.2.1), (hgrow5.cell_far ⟨(b.add (k * 6)).block, (b.add (k * 6)).off + 3, none⟩ (Nat.lt_of_lt_of_le (unhide HYB).1 (unhide H4).1.size) (unhide HYB).2).trans ((unhide HS4).2.2.2.1), (hgrow5.cell_far ⟨(b.add (k * 6)).block, (b.add (k * 6)).off + 4, none⟩ (Nat.lt_of_lt_of_le (unhide HYB).1 (unhide H4).1.size) (unhide HYB).2).trans ((unhide HS4).2.2.2.2.1), (hgrow5.cell_far ⟨(b.add (k * 6)).block, (b.add (k * 6)).off + 5, none⟩ (Nat.lt_of_lt_of_le (unhide HYB).1 (unhide H4).1.size) (unhide HYB).2).trans ((unhide HS4).2.2.2.2.2)⟩
            have H5 := hide (And.intro hown5 (And.intro hgrow5 hat5))
            refine hK.out _ _ (Or.inr (unhide HS5)) ?_
            clear hK K hown5 hgrow5 hat5 hlt5 HS4
            try simp only [Act.put, List.setIfInBounds_toArray, List.set_cons_zero, List.set_cons_succ]
            refine till_one 15 (by kernel_rfl) rfl (fun K hK => ?_)
            obtain ⟨b0, b1, b2, b3, b4, b5⟩ := unhide HS5
            go_simp
            refine hK.out _ _ (Or.inl (by first | rfl | trivial)) ?_
            clear hK K b0 b1 b2 b3 b4 b5
            try simp only [Act.put, List.setIfInBounds_toArray, List.set_cons_zero, List.set_cons_succ]
            refine till_done (by kernel_rfl) ?_ _
            have RR := hide (unhide HEND W4 W5 g5 cap5 (d0, d1, d2, d3, d4, d5, d6, d7, d8) (unhide H4).1 (unhide H4).2 (unhide H5).1 (unhide H5).2.1 (unhide H5).2.2)
            clear HEND H4 H5 HOW HI HS5 at4 HYC HYB HCo
            go_wp2_with fail
            go_roundw
            case rel => exact ⟨i, k + 1, _, _, _, rfl, rfl, by go_num, hide ⟨by omega, by omega⟩, RR⟩
            case measure => simp [intOf]; omega
      · have e1 : i = n := by omega
        have e2 : k = m := by omega
        have j1 : ¬ (i : Int) < (n : Int) := by omega
        have j2 : ¬ (k : Int) < (m : Int) := by omega
        have HF2 : Hid (cs.map chOf = DF ∧ ChO wr w.heap.size (.slice so q sc) cs ∧ Below w.heap.size w wr) := hide ⟨by
          rw [← h3, List.drop_eq_nil_of_le (by have := unhide HN; omega), List.drop_eq_nil_of_le (by have := unhide HN; omega), dfL_nil, List.append_nil], h2, h5⟩
        clear h2 h3 h5 hq hqi HX xe ye e1 e2 hik hkm hi0 hk0
        go_wp2_with fail
        go_ret2
        exact ⟨_, rfl, cs, (unhide HF2).2.1, (unhide HF2).1, (unhide HF2).2.2⟩
end Go.Proofs.Ytjhnbopejnpbeaa
