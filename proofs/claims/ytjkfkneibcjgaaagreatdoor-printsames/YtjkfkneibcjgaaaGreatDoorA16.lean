/-
  The walks of alike and same: are two values the same, field by field? no conditions but the form's own reach.
-/
import Derived.Test.YtjkfkneibcjgaaaGreatDoorA03
import Derived.Test.YtjkfkneibcjgaaaGreatDoorA15
import Derived.Deep.RegionHeld3
import Derived.Deep.QuietTactic
import Derived.BigQuiet
set_option linter.unusedVariables false
set_option linter.unusedSimpArgs false
namespace Go.Proofs.YtjkfkneibcjgaaaGreatDoor
open Go.RowKit

theorem sameL_next : ∀ (l l' : List Vl) (i : Nat) (x y : Vl), l[i]? = some x → l'[i]? = some y → sameL (l.take (i + 1)) (l'.take (i + 1)) = (sameL (l.take i) (l'.take i) && sameB x y)
  | [], _, i, x, y, h, _ => by simp at h
  | _ :: _, [], i, x, y, _, h => by simp at h
  | a :: l, b :: l', 0, x, y, h, h' => by
    simp at h h'
    subst h
    subst h'
    simp [sameL_cons, sameL_nil]
  | a :: l, b :: l', i + 1, x, y, h, h' => by
    have ih := sameL_next l l' i x y (by simpa using h) (by simpa using h')
    rw [List.take_succ_cons, List.take_succ_cons, List.take_succ_cons, List.take_succ_cons, sameL_cons, sameL_cons, ih, Bool.and_assoc]

theorem sameL_no (l l' : List Vl) (i : Nat) (x y : Vl) (h : l[i]? = some x) (h' : l'[i]? = some y) (hl : l.length = l'.length) (hs : sameB x y = false) : sameL l l' = false := by
  cases hc : sameL l l' with
  | false => rfl
  | true =>
    have e := (sameL_iff l l' hl).1 hc
    rw [e, h'] at h
    have := (sameB_iff x y).2 (Option.some.inj h).symm
    rw [hs] at this
    cases this

theorem take_next {α : Type} (ks ks' : List α) (i : Nat) (t : α) (h : ks[i]? = some t) (h' : ks'[i]? = some t) (he : ks.take i = ks'.take i) : ks.take (i + 1) = ks'.take (i + 1) := by
  obtain ⟨h1, e1⟩ := List.getElem?_eq_some_iff.1 h
  obtain ⟨h2, e2⟩ := List.getElem?_eq_some_iff.1 h'
  rw [List.take_succ_eq_append_getElem h1, List.take_succ_eq_append_getElem h2, he, e1, e2]


/-- two boxes, one behind the other -/
structure TwoL (w w2 : World) (g : Nat) (T : TypeId) (x y : Array Value) : Prop where
  at0 : w2.heap[g]? = some (.cells x T (0, 0))
  at1 : w2.heap[g + 1]? = some (.cells y T (0, 0))
  size : w2.heap.size = g + 2
  below : Below w.heap.size w w2

theorem TwoL.mk' (w : World) (T : TypeId) (x y : Array Value) : TwoL w ((w.alloc (.cells x T)).alloc (.cells y T)) w.heap.size T x y := by
  have h1 : Below w.heap.size w ((w.alloc (.cells x T)).alloc (.cells y T)) := ((Below.refl _ _).alloc (Nat.le_refl _) _).alloc (by simp) _
  refine ⟨?_, ?_, by simp, h1⟩
  · have := ((Below.refl (w.alloc (.cells x T)).heap.size (w.alloc (.cells x T))).alloc (Nat.le_refl _) (.cells y T)).block w.heap.size (by simp)
    rw [this]
    exact heap_alloc_new w _
  · have := heap_alloc_new (w.alloc (.cells x T)) (.cells y T)
    simpa using this

theorem TwoL.later {w w2 u : World} {g : Nat} {T : TypeId} {x y : Array Value} (h : TwoL w w2 g T x y) (hb : Below w2.heap.size w2 u) : u.heap[g]? = some (.cells x T (0, 0)) ∧ u.heap[g + 1]? = some (.cells y T (0, 0)) := by
  have := h.size
  exact ⟨(hb.block g (by omega)).trans h.at0, (hb.block (g + 1) (by omega)).trans h.at1⟩

def SvalAt (b : Nat) : Prop := ∀ (v v' : Vl) (x x' : Value) (B : Nat) (w : World), dep v ≤ b → IsV w B v x → IsV w B v' x' → B ≤ w.heap.size →
    Calls Tryz.prog 63 #[x, x'] w fun e w' => e = .returned (.bool (sameB v v')) ∧ Below w.heap.size w w'

theorem sval_zero : SvalAt 0 := by
  intro v v' x x' B w h
  have := dep_pos v
  omega

set_option maxRecDepth 100000 in
set_option maxHeartbeats 1000000 in
theorem sval_step (b : Nat) (ih : SvalAt b) : SvalAt (b + 1) := by
  intro v v' x x' B w hd hv hv' hBs
  obtain ⟨k, n, s, l, ks, al, ak, cl, ck, rfl, rfl⟩ := hv.shape
  obtain ⟨k', n', s', l', ks', al', ak', cl', ck', rfl, rfl⟩ := hv'.shape
  obtain ⟨m, hm⟩ : ∃ m, ks.length = m := ⟨_, rfl⟩
  obtain ⟨ln, hln⟩ : ∃ ln, l.length = ln := ⟨_, rfl⟩
  obtain ⟨m', hm'⟩ : ∃ m', ks'.length = m' := ⟨_, rfl⟩
  obtain ⟨ln', hln'⟩ : ∃ ln', l'.length = ln' := ⟨_, rfl⟩
  rw [hm, hln] at hv
  rw [hm', hln'] at hv'
  rw [hm, hln, hm', hln']
  have hb1 : (ln ≤ 140737488351232 ∧ ln' ≤ 140737488351232) ∧ m ≤ 140737488351232 ∧ m' ≤ 140737488351232 := by
    obtain ⟨_, _, _, h1, h2, V, hf, _⟩ := IsP.at hv
    obtain ⟨_, _, _, h1', h2', V', hf', _⟩ := IsP.at hv'
    have := hf.bl
    have := hf'.bl
    have := hf.bc
    have := hf'.bc
    omega
  obtain ⟨⟨hlb, hlb'⟩, hmb, hmb'⟩ := hb1
  have TW := TwoL.mk' w 26 #[.int .i64 k, .int .i64 n, .string s, .slice al ln cl, .slice ak m ck] #[.int .i64 k', .int .i64 n', .string s', .slice al' ln' cl', .slice ak' m' ck']
  obtain ⟨w2, hw2⟩ : ∃ w2, (w.alloc (.cells #[.int .i64 k, .int .i64 n, .string s, .slice al ln cl, .slice ak m ck] 26)).alloc (.cells #[.int .i64 k', .int .i64 n', .string s', .slice al' ln' cl', .slice ak' m' ck'] 26) = w2 := ⟨_, rfl⟩
  rw [hw2] at TW
  obtain ⟨g, hg⟩ : ∃ g, w.heap.size = g := ⟨_, rfl⟩
  rw [hg] at TW
  have HT := hide TW
  have HV : Hid (∀ u, Below w2.heap.size w2 u → IsV u B (.mk k n s l ks) (.agg #[.int .i64 k, .int .i64 n, .string s, .slice al ln cl, .slice ak m ck]) ∧ IsV u B (.mk k' n' s' l' ks') (.agg #[.int .i64 k', .int .i64 n', .string s', .slice al' ln' cl', .slice ak' m' ck'])) :=
    hide (fun u hu => by
      have h1 : Below B w u := (TW.below.mono (by omega)).trans (hu.mono (by have := TW.size; omega))
      exact ⟨hv.mono h1, hv'.mono h1⟩)
  have HB : Hid (Below w.heap.size w w2) := hide TW.below
  obtain ⟨c0, c1, c2, c3, c4⟩ := row_cell TW.at0
  obtain ⟨d0, d1, d2, d3, d4⟩ := row_cell TW.at1
  have HL := hide (And.intro hm (And.intro hln (And.intro hm' hln')))
  have hdl : ∀ i y, l[i]? = some y → dep y ≤ b := fun i y h => by have h1 := dep_elem l i y h; simp only [dep] at hd; omega
  have HD := hide hdl
  clear TW hv hv' hm hln hm' hln' hdl hd
  by_cases h1 : k = k'
  · subst h1
    by_cases h2 : n = n'
    · subst h2
      cases h3 : (s.toList == s'.toList) with
      | true =>
        by_cases h4 : ln = ln'
        · subst h4
          by_cases h5 : m = m'
          · subst h5
            have HG : Hid (sameB (.mk k n s l ks) (.mk k n s' l' ks') = (decide (ks = ks') && sameL l l')) := hide (by
              obtain ⟨e1, e2, e3, e4⟩ := unhide HL
              simp only [sameB]
              rw [h3, e2, e4]
              simp)
            have hs1 : (!(s.toList == s'.toList)) = false := by rw [h3]; rfl
            clear h3
            go_enter Tryz.func63, Tryz.ntmps63
            go_wp2_with fail
            clear c0 c1 c2 c3 c4 d0 d1 d2 d3 d4
            go_loopw [5] (fun x wr => ∃ (i : Nat), i ≤ m ∧ x = .int .i64 i ∧ Hid (Below w2.heap.size w2 wr) ∧ Hid (ks.take i = ks'.take i)) (fun x _ => m - (intOf x).toNat)
            case atStart => exact ⟨0, Nat.zero_le _, rfl, hide (Below.refl _ _), hide rfl⟩
            case round =>
              obtain ⟨i, hi, rfl, HX, HR⟩ := hrel
              obtain ⟨r0, r1⟩ := (unhide HT).later (unhide HX)
              obtain ⟨c0, c1, c2, c3, c4⟩ := row_cell r0
              obtain ⟨d0, d1, d2, d3, d4⟩ := row_cell r1
              clear r0 r1
              by_cases hlt : i < m
              · have i2 : (i : Int) < (m : Int) := by omega
                obtain ⟨v1, v2⟩ := unhide HV wr (unhide HX)
                obtain ⟨tk, htk⟩ : ∃ tk, ks[i]? = some tk := ⟨_, List.getElem?_eq_getElem (by have := (unhide HL).1; omega)⟩
                obtain ⟨tk', htk'⟩ : ∃ tk', ks'[i]? = some tk' := ⟨_, List.getElem?_eq_getElem (by have := (unhide HL).2.2.1; omega)⟩
                obtain ⟨a2, rfl⟩ : ∃ a2, ak = some a2 := by
                  cases ak with
                  | none => have h1 := v1.keys.1.none rfl; have h2 := (unhide HL).1; omega
                  | some a2 => exact ⟨a2, rfl⟩
                obtain ⟨a2', rfl⟩ : ∃ a2', ak' = some a2' := by
                  cases ak' with
                  | none => have h1 := v2.keys.1.none rfl; have h2 := (unhide HL).2.2.1; omega
                  | some a2 => exact ⟨a2, rfl⟩
                have cK := v1.keys.1.cell a2 rfl i tk htk
                have cK' := v2.keys.1.cell a2' rfl i tk' htk'
                have HTK := hide (And.intro htk htk')
                have HI1 : Hid (i + 1 ≤ m) := hide (by omega)
                clear v1 v2 htk htk'
                go_upto_region 6 with fail
                cases hbe : (tk.toList == tk'.toList) with
                | true =>
                  have HR' : Hid (ks.take (i + 1) = ks'.take (i + 1)) := hide (by
                    have e := (bytes_beq tk tk').1 hbe
                    exact take_next ks ks' i tk (unhide HTK).1 (by rw [e]; exact (unhide HTK).2) (unhide HR))
                  go_quiet (fail)
                  go_wp2_with fail
                  go_roundw
                  case rel => exact ⟨i + 1, unhide HI1, by go_num, hide (below_drewP (unhide HX) _), HR'⟩
                  case measure => have := unhide HI1; simp [intOf]; omega
                | false =>
                  have HG2 : Hid (sameB (.mk k n s l ks) (.mk k n s' l' ks') = false) := hide (by
                    have hne : ¬ ks = ks' := fun e => by
                      have h1 := (unhide HTK).1
                      rw [e, (unhide HTK).2] at h1
                      have h2 := (bytes_beq tk tk').2 (Option.some.inj h1).symm
                      rw [hbe] at h2
                      cases h2
                    rw [unhide HG, decide_eq_false hne]; rfl)
                  go_quiet (fail)
                  go_wp2_with fail
                  go_ret
                  have XX : Below w.heap.size w (wr.drewN nq) := (unhide HB).trans ((below_drewP (unhide HX) _).mono (by have := (unhide HT).size; omega))
                  exact ⟨by rw [unhide HG2]; rfl, by first | exact XX | (rw [← hg]; exact XX)⟩
              · have i2 : ¬ (i : Int) < (m : Int) := by omega
                have HK : Hid (ks = ks') := hide (by
                  have h := unhide HR
                  have e1 := (unhide HL).1
                  have e3 := (unhide HL).2.2.1
                  rw [List.take_of_length_le (by omega), List.take_of_length_le (by omega)] at h
                  exact h)
                have HX0 := HX
                clear HR HX
                go_wp2_with fail
                clear c0 c1 c2 c3 c4 d0 d1 d2 d3 d4
                go_loopw [6] (fun x wr => ∃ (i : Nat), i ≤ ln ∧ x = .int .i64 i ∧ Hid (Below w2.heap.size w2 wr) ∧ Hid (sameL (l.take i) (l'.take i) = true)) (fun x _ => ln - (intOf x).toNat)
                case atStart => exact ⟨0, Nat.zero_le _, rfl, HX0, hide (by simp [sameL])⟩
                case round =>
                  clear HX0
                  obtain ⟨i, hi, rfl, HX, HR⟩ := hrel
                  obtain ⟨wq, hwq⟩ : ∃ wq, wq = wr := ⟨_, rfl⟩
                  subst hwq
                  obtain ⟨r0, r1⟩ := (unhide HT).later (unhide HX)
                  obtain ⟨c0, c1, c2, c3, c4⟩ := row_cell r0
                  obtain ⟨d0, d1, d2, d3, d4⟩ := row_cell r1
                  clear r0 r1
                  by_cases hlt : i < ln
                  · have i3 : (i : Int) < (ln : Int) := by omega
                    obtain ⟨v1, v2⟩ := unhide HV _ (unhide HX)
                    obtain ⟨y, hy⟩ : ∃ y, l[i]? = some y := ⟨_, List.getElem?_eq_getElem (by have := (unhide HL).2.1; omega)⟩
                    obtain ⟨y', hy'⟩ : ∃ y', l'[i]? = some y' := ⟨_, List.getElem?_eq_getElem (by have := (unhide HL).2.2.2; omega)⟩
                    have HY := hide (And.intro hy hy')
                    have HVc := hide (And.intro v1 v2)
                    clear v1 v2 hy hy'
                    obtain ⟨a, y0, y1, y2, bl, bk, ll', mm, cl1, ck1, rfl, hab, hce, hve⟩ := (unhide HVc).1.elem i y (unhide HY).1
                    obtain ⟨a', z0, z1, z2, bl', bk', zl', zm, cl2, ck2, rfl, hab', hce', hve'⟩ := (unhide HVc).2.elem i y' (unhide HY).2
                    have e0 : wq.cell? (a.add (i * 5)) = some (.int .i64 y0) := hce 0 _ rfl
                    have e1 : wq.cell? ⟨(a.add (i * 5)).block, (a.add (i * 5)).off + 1, none⟩ = some (.int .i64 y1) := hce 1 _ rfl
                    have e2 : wq.cell? ⟨(a.add (i * 5)).block, (a.add (i * 5)).off + 2, none⟩ = some (.string y2) := hce 2 _ rfl
                    have e3 : wq.cell? ⟨(a.add (i * 5)).block, (a.add (i * 5)).off + 3, none⟩ = some (.slice bl ll' cl1) := hce 3 _ rfl
                    have e4 : wq.cell? ⟨(a.add (i * 5)).block, (a.add (i * 5)).off + 4, none⟩ = some (.slice bk mm ck1) := hce 4 _ rfl
                    have f0 : wq.cell? (a'.add (i * 5)) = some (.int .i64 z0) := hce' 0 _ rfl
                    have f1 : wq.cell? ⟨(a'.add (i * 5)).block, (a'.add (i * 5)).off + 1, none⟩ = some (.int .i64 z1) := hce' 1 _ rfl
                    have f2 : wq.cell? ⟨(a'.add (i * 5)).block, (a'.add (i * 5)).off + 2, none⟩ = some (.string z2) := hce' 2 _ rfl
                    have f3 : wq.cell? ⟨(a'.add (i * 5)).block, (a'.add (i * 5)).off + 3, none⟩ = some (.slice bl' zl' cl2) := hce' 3 _ rfl
                    have f4 : wq.cell? ⟨(a'.add (i * 5)).block, (a'.add (i * 5)).off + 4, none⟩ = some (.slice bk' zm ck2) := hce' 4 _ rfl
                    have hBc : B ≤ wq.heap.size := by have := (unhide HX).size; have := (unhide HT).size; omega
                    have hdr : Below wq.heap.size wq wq.drew := (Below.refl _ _).drew
                    have CR := hide (ih y y' _ _ B wq.drew (unhide HD i y (unhide HY).1) (hve.mono (hdr.mono hBc)) (hve'.mono (hdr.mono hBc)) (by have := hdr.size; omega))
                    obtain ⟨R, hR⟩ : ∃ R, sameB y y' = R := ⟨_, rfl⟩
                    rw [hR] at CR
                    have HRR := hide hR
                    clear hR hce hce' hve hve' hdr
                    go_upto_region 11 with fail
                    go_cut [7] from 70 to 82 (fun r wx => r = .bool R ∧ Hid (Below w2.heap.size w2 wx))
                    case first =>
                      go_region_held3 (fun w' => w'.cell? ⟨g, 3, none⟩ = some (.slice (some a) ln cl) ∧ w'.cell? ⟨g + 1, 3, none⟩ = some (.slice (some a') ln cl') ∧
                          w'.cell? (a.add (i * 5)) = some (.int .i64 y0) ∧ w'.cell? ⟨(a.add (i * 5)).block, (a.add (i * 5)).off + 1, none⟩ = some (.int .i64 y1) ∧ w'.cell? ⟨(a.add (i * 5)).block, (a.add (i * 5)).off + 2, none⟩ = some (.string y2) ∧ w'.cell? ⟨(a.add (i * 5)).block, (a.add (i * 5)).off + 3, none⟩ = some (.slice bl ll' cl1) ∧ w'.cell? ⟨(a.add (i * 5)).block, (a.add (i * 5)).off + 4, none⟩ = some (.slice bk mm ck1) ∧
                          w'.cell? (a'.add (i * 5)) = some (.int .i64 z0) ∧ w'.cell? ⟨(a'.add (i * 5)).block, (a'.add (i * 5)).off + 1, none⟩ = some (.int .i64 z1) ∧ w'.cell? ⟨(a'.add (i * 5)).block, (a'.add (i * 5)).off + 2, none⟩ = some (.string z2) ∧ w'.cell? ⟨(a'.add (i * 5)).block, (a'.add (i * 5)).off + 3, none⟩ = some (.slice bl' zl' cl2) ∧ w'.cell? ⟨(a'.add (i * 5)).block, (a'.add (i * 5)).off + 4, none⟩ = some (.slice bk' zm ck2))
                        (first | go_keep | (have hb6 := below_drew_of' b5; exact ⟨cell_later hb6 c3, cell_later hb6 d3, cell_later hb6 e0, cell_later hb6 e1, cell_later hb6 e2, cell_later hb6 e3, cell_later hb6 e4, cell_later hb6 f0, cell_later hb6 f1, cell_later hb6 f2, cell_later hb6 f3, cell_later hb6 f4⟩))
                        (first | (go_at_call 63; refine (unhide CR).mono ?_; rintro e w5 ⟨rfl, b5⟩))
                      have HX5 : Hid (Below w2.heap.size w2 w5) := hide ((unhide HX).trans ((below_drew_of' b5).mono (unhide HX).size))
                      clear b5 CR
                      go_wp2_with fail
                      go_meet
                      exact ⟨rfl, HX5⟩
                    case rest =>
                      obtain ⟨rfl, HX5⟩ := hcut
                      clear c0 c1 c2 c3 c4 d0 d1 d2 d3 d4 e0 e1 e2 e3 e4 f0 f1 f2 f3 f4 CR HVc HX
                      have HI1 : Hid (i + 1 ≤ ln) := hide (by omega)
                      cases R with
                      | true =>
                        have HR' : Hid (sameL (l.take (i + 1)) (l'.take (i + 1)) = true) := hide (by
                          rw [sameL_next l l' i y y' (unhide HY).1 (unhide HY).2, unhide HR, unhide HRR]; rfl)
                        go_wp2_with fail
                        go_roundw
                        case rel => exact ⟨i + 1, unhide HI1, by go_num, HX5, HR'⟩
                        case measure => have := unhide HI1; simp [intOf]; omega
                      | false =>
                        have HG2 : Hid (sameB (.mk k n s l ks) (.mk k n s' l' ks') = false) := hide (by
                          obtain ⟨e1, e2, e3, e4⟩ := unhide HL
                          rw [unhide HG, sameL_no l l' i y y' (unhide HY).1 (unhide HY).2 (by omega) (unhide HRR), Bool.and_false])
                        go_wp2_with fail
                        go_ret
                        exact ⟨by rw [unhide HG2]; rfl, by first | exact (unhide HB).trans ((unhide HX5).mono (by have := (unhide HT).size; omega)) | (rw [← hg]; exact (unhide HB).trans ((unhide HX5).mono (by have := (unhide HT).size; omega)))⟩
                  · have i3 : ¬ (i : Int) < (ln : Int) := by omega
                    have HG2 : Hid (sameB (.mk k n s l ks) (.mk k n s' l' ks') = true) := hide (by
                      obtain ⟨e1, e2, e3, e4⟩ := unhide HL
                      have h := unhide HR
                      rw [List.take_of_length_le (by omega), List.take_of_length_le (by omega)] at h
                      rw [unhide HG, h, decide_eq_true (unhide HK)]; rfl)
                    go_wp2_with fail
                    go_ret
                    exact ⟨by rw [unhide HG2]; rfl, by first | exact (unhide HB).trans ((unhide HX).mono (by have := (unhide HT).size; omega)) | (rw [← hg]; exact (unhide HB).trans ((unhide HX).mono (by have := (unhide HT).size; omega)))⟩
          · have h5' : (m : Int) ≠ (m' : Int) := by omega
            have hs1 : (!(s.toList == s'.toList)) = false := by rw [h3]; rfl
            have HG : Hid (sameB (.mk k n s l ks) (.mk k n s' l' ks') = false) := hide (by
              obtain ⟨e1, e2, e3, e4⟩ := unhide HL
              have : ¬ ks = ks' := fun e => h5 (by rw [← e1, ← e3, e])
              simp [sameB, this])
            have hb : ((m : Int) != (m' : Int)) = true := by simpa using h5'
            clear h5 h5' h3
            go_enter Tryz.func63, Tryz.ntmps63
            go_wp2_with fail
            go_ret
            exact ⟨by rw [unhide HG]; rfl, by first | exact unhide HB | (rw [← hg]; exact unhide HB)⟩
        · have h4' : (ln : Int) ≠ (ln' : Int) := by omega
          have hs1 : (!(s.toList == s'.toList)) = false := by rw [h3]; rfl
          have HG : Hid (sameB (.mk k n s l ks) (.mk k n s' l' ks') = false) := hide (by
            obtain ⟨e1, e2, e3, e4⟩ := unhide HL
            simp [sameB, e2, e4, h4])
          have hb : ((ln : Int) != (ln' : Int)) = true := by simpa using h4'
          clear h4 h4' h3
          go_enter Tryz.func63, Tryz.ntmps63
          go_wp2_with fail
          go_ret
          exact ⟨by rw [unhide HG]; rfl, by first | exact unhide HB | (rw [← hg]; exact unhide HB)⟩
      | false =>
        have HG : Hid (sameB (.mk k n s l ks) (.mk k n s' l' ks') = false) := hide (by simp only [sameB]; rw [h3]; simp)
        have hs1 : (!(s.toList == s'.toList)) = true := by rw [h3]; rfl
        go_enter Tryz.func63, Tryz.ntmps63
        go_wp2_with fail
        go_ret
        exact ⟨by rw [unhide HG]; rfl, by first | exact unhide HB | (rw [← hg]; exact unhide HB)⟩
    · have HG : Hid (sameB (.mk k n s l ks) (.mk k n' s' l' ks') = false) := hide (by simp [sameB, h2])
      have hb : (n != n') = true := by simpa using h2
      clear h2
      go_enter Tryz.func63, Tryz.ntmps63
      go_wp2_with fail
      go_ret
      exact ⟨by rw [unhide HG]; rfl, by first | exact unhide HB | (rw [← hg]; exact unhide HB)⟩
  · have HG : Hid (sameB (.mk k n s l ks) (.mk k' n' s' l' ks') = false) := hide (by simp [sameB, h1])
    have hb : (k != k') = true := by simpa using h1
    clear h1
    go_enter Tryz.func63, Tryz.ntmps63
    go_wp2_with fail
    go_ret
    exact ⟨by rw [unhide HG]; rfl, by first | exact unhide HB | (rw [← hg]; exact unhide HB)⟩

theorem sval_any : ∀ b, SvalAt b
  | 0 => sval_zero
  | b + 1 => sval_step b (sval_any b)
end Go.Proofs.YtjkfkneibcjgaaaGreatDoor
