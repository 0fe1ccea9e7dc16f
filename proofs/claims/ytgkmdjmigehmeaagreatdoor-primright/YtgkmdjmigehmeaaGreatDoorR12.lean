/-
  The walk of scruplelaw03.Same: are two values the same, field by field? no conditions but the form's own reach.
-/
import Derived.Test.YtgkmdjmigehmeaaGreatDoorR08
import Derived.Test.YtgkmdjmigehmeaaGreatDoorR06
import Derived.Test.YtgkmdjmigehmeaaGreatDoorR01
import Derived.WalkSpells
import Derived.WalkSmall
import Derived.Test.YtgkmdjmigehmeaaGreatDoorR02
import Derived.Test.YtgkmdjmigehmeaaGreatDoorR05
import Derived.Laws.AppendOwn
import Derived.ArgAppend
import Derived.Deep.AppendLies
import Derived.OwnWalk
import Derived.BigQuiet
import Derived.Deep.QuietTactic
import Derived.Test.YtgkmdjmigehmeaaGreatDoorR07
import Derived.Test.YtgkmdjmigehmeaaGreatDoorR11
import Derived.Test.YtgkmdjmigehmeaaGreatDoorR00
import Derived.Laws.Strings
import Derived.ProofKit
import Derived.ShutString
import Derived.Deep.RegionHeld3
import Derived.Deep.CutRange
namespace Go.Proofs.YtgkmdjmigehmeaaGreatDoor
set_option linter.unusedVariables false
set_option linter.unusedSimpArgs false
set_option maxRecDepth 100000
set_option maxHeartbeats 16000000
open Go.RowKit
def Same3At (b : Nat) : Prop := ∀ (v v' : Vl) (x x' : Value) (B : Nat) (w : World), dep v ≤ b → IsV w B v x → IsV w B v' x' → B ≤ w.heap.size →
  Calls Tryz.prog 14 #[x, x'] w fun e w' => e = .returned (.bool (sameB v v')) ∧ Below w.heap.size w w'
theorem same3_zero : Same3At 0 := by
 intro v v' x x' B w h
 have := dep_pos v
 omega
theorem same3_step (b : Nat) (ih : Same3At b) : Same3At (b + 1) := by
 intro v v' x x' B w hd hv hv' hBs
 obtain ⟨k, n, s, l, ks, al, ak, cl, ck, rfl, rfl⟩ := hv.shape
 obtain ⟨k', n', s', l', ks', al', ak', cl', ck', rfl, rfl⟩ := hv'.shape
 obtain ⟨m, hm⟩ : ∃ m, ks.length = m := ⟨_, rfl⟩
 obtain ⟨ln, hln⟩ : ∃ ln, l.length = ln := ⟨_, rfl⟩
 obtain ⟨m', hm'⟩ : ∃ m', ks'.length = m' := ⟨_, rfl⟩
 obtain ⟨ln', hln'⟩ : ∃ ln', l'.length = ln' := ⟨_, rfl⟩
 rw [hm, hln] at hv
 rw [hm', hln'] at hv'
 rw [hm, hln, hm', hln']
 have hb1 : (ln ≤ 140737488351232 ∧ ln' ≤ 140737488351232) ∧ m ≤ 140737488351232 ∧ m' ≤ 140737488351232 := by
  obtain ⟨_, _, _, h1, h2, V, hf, _⟩ := IsP.at hv
  obtain ⟨_, _, _, h1', h2', V', hf', _⟩ := IsP.at hv'
  have := hf.bl
  have := hf'.bl
  have := hf.bc
  have := hf'.bc
  omega
 obtain ⟨⟨hlb, hlb'⟩, hmb, hmb'⟩ := hb1
 have TW := Two.mk' w 25 #[.int .i64 k, .int .i64 n, .string s, .slice al ln cl, .slice ak m ck] #[.int .i64 k', .int .i64 n', .string s', .slice al' ln' cl', .slice ak' m' ck']
 obtain ⟨w2, hw2⟩ : ∃ w2, (w.alloc (.cells #[.int .i64 k, .int .i64 n, .string s, .slice al ln cl, .slice ak m ck] 25)).alloc (.cells #[.int .i64 k', .int .i64 n', .string s', .slice al' ln' cl', .slice ak' m' ck'] 25) = w2 := ⟨_, rfl⟩
 rw [hw2] at TW
 obtain ⟨g, hg⟩ : ∃ g, w.heap.size = g := ⟨_, rfl⟩
 rw [hg] at TW
 have HT := hide TW
 have HV : Hid (∀ u, Below w2.heap.size w2 u → IsV u B (.mk k n s l ks) (.agg #[.int .i64 k, .int .i64 n, .string s, .slice al ln cl, .slice ak m ck]) ∧ IsV u B (.mk k' n' s' l' ks') (.agg #[.int .i64 k', .int .i64 n', .string s', .slice al' ln' cl', .slice ak' m' ck'])) :=
  hide (fun u hu => by
   have h1 : Below B w u := (TW.below.mono (by omega)).trans (hu.mono (by have := TW.size; omega))
   exact ⟨hv.mono h1, hv'.mono h1⟩)
 have HB : Hid (Below w.heap.size w w2) := hide TW.below
 obtain ⟨c0, c1, c2, c3, c4⟩ := row_cell TW.at0
 obtain ⟨d0, d1, d2, d3, d4⟩ := row_cell TW.at1
 have HL := hide (And.intro hm (And.intro hln (And.intro hm' hln')))
 have hdl : ∀ i y, l[i]? = some y → dep y ≤ b := fun i y h => by have h1 := dep_elem l i y h; simp only [dep] at hd; omega
 have HD := hide hdl
 clear TW hv hv' hm hln hm' hln' hdl hd
 by_cases h1 : k = k'
 ·subst h1
  by_cases h2 : n = n'
  ·subst h2
   cases h3 : (s.toList == s'.toList) with
   | true =>
    by_cases h4 : ln = ln'
    ·subst h4
     by_cases h5 : m = m'
     ·subst h5
      have HG : Hid (sameB (.mk k n s l ks) (.mk k n s' l' ks') = (decide (ks = ks') && sameL l l')) := hide (by
       obtain ⟨e1, e2, e3, e4⟩ := uh HL
       simp only [sameB]
       rw [h3, e2, e4]
       simp)
      have hs1 : (!(s.toList == s'.toList)) = false := by rw [h3]; rfl
      clear h3
      go_enter Tryz.func14, Tryz.ntmps14
      go_wp2_with fail
      clear c0 c1 c2 c3 c4 d0 d1 d2 d3 d4
      go_loopw [5] (fun x wr => ∃ (i : Nat), i ≤ m ∧ x = .int .i64 i ∧ Hid (Below w2.heap.size w2 wr) ∧ Hid (ks.take i = ks'.take i)) (fun x _ => m - (intOf x).toNat)
      case atStart => exact ⟨0, Nat.zero_le _, rfl, hide (Below.refl _ _), hide rfl⟩
      case round =>
       obtain ⟨i, hi, rfl, HX, HR⟩ := hrel
       obtain ⟨r0, r1⟩ := (uh HT).later (uh HX)
       obtain ⟨c0, c1, c2, c3, c4⟩ := row_cell r0
       obtain ⟨d0, d1, d2, d3, d4⟩ := row_cell r1
       clear r0 r1
       by_cases hlt : i < m
       ·have i2 : (i : Int) < (m : Int) := by omega
        obtain ⟨v1, v2⟩ := uh HV wr (uh HX)
        obtain ⟨tk, htk⟩ : ∃ tk, ks[i]? = some tk := ⟨_, List.getElem?_eq_getElem (by have := (uh HL).1; omega)⟩
        obtain ⟨tk', htk'⟩ : ∃ tk', ks'[i]? = some tk' := ⟨_, List.getElem?_eq_getElem (by have := (uh HL).2.2.1; omega)⟩
        obtain ⟨a2, rfl⟩ : ∃ a2, ak = some a2 := by
         cases ak with
         | none => have h1 := v1.keys.1.none rfl; have h2 := (uh HL).1; omega
         | some a2 => exact ⟨a2, rfl⟩
        obtain ⟨a2', rfl⟩ : ∃ a2', ak' = some a2' := by
         cases ak' with
         | none => have h1 := v2.keys.1.none rfl; have h2 := (uh HL).2.2.1; omega
         | some a2 => exact ⟨a2, rfl⟩
        have cK := v1.keys.1.cell a2 rfl i tk htk
        have cK' := v2.keys.1.cell a2' rfl i tk' htk'
        have HTK := hide (And.intro htk htk')
        have HI1 : Hid (i + 1 ≤ m) := hide (by omega)
        clear v1 v2 htk htk'
        go_upto_region 6 with fail
        cases hbe : (tk.toList == tk'.toList) with
        | true =>
         have HR' : Hid (ks.take (i + 1) = ks'.take (i + 1)) := hide (by
          have e := (bytes_beq tk tk').1 hbe
          exact take_next ks ks' i tk (uh HTK).1 (by rw [e]; exact (uh HTK).2) (uh HR))
         go_quiet (fail)
         go_wp2_with fail
         go_roundw
         case rel => exact ⟨i + 1, uh HI1, by go_num, hide (below_drewN (uh HX) _), HR'⟩
         case measure => have := uh HI1; simp [intOf]; omega
        | false =>
         have HG2 : Hid (sameB (.mk k n s l ks) (.mk k n s' l' ks') = false) := hide (by
          have hne : ¬ ks = ks' := fun e => by
           have h1 := (uh HTK).1
           rw [e, (uh HTK).2] at h1
           have h2 := (bytes_beq tk tk').2 (Option.some.inj h1).symm
           rw [hbe] at h2
           cases h2
          rw [uh HG, decide_eq_false hne]; rfl)
         go_quiet (fail)
         go_wp2_with fail
         go_ret
         have XX : Below w.heap.size w (wr.drewN nq) := (uh HB).trans ((below_drewN (uh HX) _).mono (by have := (uh HT).size; omega))
         exact ⟨by rw [uh HG2]; rfl, by first | exact XX | (rw [← hg]; exact XX)⟩
       ·have i2 : ¬ (i : Int) < (m : Int) := by omega
        have HK : Hid (ks = ks') := hide (by
         have h := uh HR
         have e1 := (uh HL).1
         have e3 := (uh HL).2.2.1
         rw [List.take_of_length_le (by omega), List.take_of_length_le (by omega)] at h
         exact h)
        have HX0 := HX
        clear HR HX
        go_wp2_with fail
        clear c0 c1 c2 c3 c4 d0 d1 d2 d3 d4
        go_loopw [6] (fun x wr => ∃ (i : Nat), i ≤ ln ∧ x = .int .i64 i ∧ Hid (Below w2.heap.size w2 wr) ∧ Hid (sameL (l.take i) (l'.take i) = true)) (fun x _ => ln - (intOf x).toNat)
        case atStart => exact ⟨0, Nat.zero_le _, rfl, HX0, hide (by simp [sameL])⟩
        case round =>
         clear HX0
         obtain ⟨i, hi, rfl, HX, HR⟩ := hrel
         obtain ⟨wq, hwq⟩ : ∃ wq, wq = wr := ⟨_, rfl⟩
         subst hwq
         obtain ⟨r0, r1⟩ := (uh HT).later (uh HX)
         obtain ⟨c0, c1, c2, c3, c4⟩ := row_cell r0
         obtain ⟨d0, d1, d2, d3, d4⟩ := row_cell r1
         clear r0 r1
         by_cases hlt : i < ln
         ·have i3 : (i : Int) < (ln : Int) := by omega
          obtain ⟨v1, v2⟩ := uh HV _ (uh HX)
          obtain ⟨y, hy⟩ : ∃ y, l[i]? = some y := ⟨_, List.getElem?_eq_getElem (by have := (uh HL).2.1; omega)⟩
          obtain ⟨y', hy'⟩ : ∃ y', l'[i]? = some y' := ⟨_, List.getElem?_eq_getElem (by have := (uh HL).2.2.2; omega)⟩
          have HY := hide (And.intro hy hy')
          have HVc := hide (And.intro v1 v2)
          clear v1 v2 hy hy'
          obtain ⟨a, y0, y1, y2, bl, bk, ll', mm, cl1, ck1, rfl, hab, hce, hve⟩ := (uh HVc).1.elem i y (uh HY).1
          obtain ⟨a', z0, z1, z2, bl', bk', zl', zm, cl2, ck2, rfl, hab', hce', hve'⟩ := (uh HVc).2.elem i y' (uh HY).2
          have e0 : wq.cell? (a.add (i * 5)) = some (.int .i64 y0) := hce 0 _ rfl
          have e1 : wq.cell? ⟨(a.add (i * 5)).block, (a.add (i * 5)).off + 1, none⟩ = some (.int .i64 y1) := hce 1 _ rfl
          have e2 : wq.cell? ⟨(a.add (i * 5)).block, (a.add (i * 5)).off + 2, none⟩ = some (.string y2) := hce 2 _ rfl
          have e3 : wq.cell? ⟨(a.add (i * 5)).block, (a.add (i * 5)).off + 3, none⟩ = some (.slice bl ll' cl1) := hce 3 _ rfl
          have e4 : wq.cell? ⟨(a.add (i * 5)).block, (a.add (i * 5)).off + 4, none⟩ = some (.slice bk mm ck1) := hce 4 _ rfl
          have f0 : wq.cell? (a'.add (i * 5)) = some (.int .i64 z0) := hce' 0 _ rfl
          have f1 : wq.cell? ⟨(a'.add (i * 5)).block, (a'.add (i * 5)).off + 1, none⟩ = some (.int .i64 z1) := hce' 1 _ rfl
          have f2 : wq.cell? ⟨(a'.add (i * 5)).block, (a'.add (i * 5)).off + 2, none⟩ = some (.string z2) := hce' 2 _ rfl
          have f3 : wq.cell? ⟨(a'.add (i * 5)).block, (a'.add (i * 5)).off + 3, none⟩ = some (.slice bl' zl' cl2) := hce' 3 _ rfl
          have f4 : wq.cell? ⟨(a'.add (i * 5)).block, (a'.add (i * 5)).off + 4, none⟩ = some (.slice bk' zm ck2) := hce' 4 _ rfl
          have hBc : B ≤ wq.heap.size := by have := (uh HX).size; have := (uh HT).size; omega
          have hdr : Below wq.heap.size wq wq.drew := (Below.refl _ _).drew
          have CR := hide (ih y y' _ _ B wq.drew (uh HD i y (uh HY).1) (hve.mono (hdr.mono hBc)) (hve'.mono (hdr.mono hBc)) (by have := hdr.size; omega))
          obtain ⟨R, hR⟩ : ∃ R, sameB y y' = R := ⟨_, rfl⟩
          rw [hR] at CR
          have HRR := hide hR
          clear hR hce hce' hve hve' hdr
          go_upto_region 11 with fail
          go_cut [7] from 70 to 82 (fun r wx => r = .bool R ∧ Hid (Below w2.heap.size w2 wx))
          case first =>
           go_region_held3 (fun w' => w'.cell? ⟨g, 3, none⟩ = some (.slice (some a) ln cl) ∧ w'.cell? ⟨g + 1, 3, none⟩ = some (.slice (some a') ln cl') ∧
             w'.cell? (a.add (i * 5)) = some (.int .i64 y0) ∧ w'.cell? ⟨(a.add (i * 5)).block, (a.add (i * 5)).off + 1, none⟩ = some (.int .i64 y1) ∧ w'.cell? ⟨(a.add (i * 5)).block, (a.add (i * 5)).off + 2, none⟩ = some (.string y2) ∧ w'.cell? ⟨(a.add (i * 5)).block, (a.add (i * 5)).off + 3, none⟩ = some (.slice bl ll' cl1) ∧ w'.cell? ⟨(a.add (i * 5)).block, (a.add (i * 5)).off + 4, none⟩ = some (.slice bk mm ck1) ∧
             w'.cell? (a'.add (i * 5)) = some (.int .i64 z0) ∧ w'.cell? ⟨(a'.add (i * 5)).block, (a'.add (i * 5)).off + 1, none⟩ = some (.int .i64 z1) ∧ w'.cell? ⟨(a'.add (i * 5)).block, (a'.add (i * 5)).off + 2, none⟩ = some (.string z2) ∧ w'.cell? ⟨(a'.add (i * 5)).block, (a'.add (i * 5)).off + 3, none⟩ = some (.slice bl' zl' cl2) ∧ w'.cell? ⟨(a'.add (i * 5)).block, (a'.add (i * 5)).off + 4, none⟩ = some (.slice bk' zm ck2))
            (first | go_keep | (have hb6 := below_drew_of' b5; exact ⟨cell_later hb6 c3, cell_later hb6 d3, cell_later hb6 e0, cell_later hb6 e1, cell_later hb6 e2, cell_later hb6 e3, cell_later hb6 e4, cell_later hb6 f0, cell_later hb6 f1, cell_later hb6 f2, cell_later hb6 f3, cell_later hb6 f4⟩))
            (first | (go_at_call 14; refine (uh CR).mono ?_; rintro e w5 ⟨rfl, b5⟩))
           have HX5 : Hid (Below w2.heap.size w2 w5) := hide ((uh HX).trans ((below_drew_of' b5).mono (uh HX).size))
           clear b5 CR
           go_wp2_with fail
           go_meet
           exact ⟨rfl, HX5⟩
          case rest =>
           obtain ⟨rfl, HX5⟩ := hcut
           clear c0 c1 c2 c3 c4 d0 d1 d2 d3 d4 e0 e1 e2 e3 e4 f0 f1 f2 f3 f4 CR HVc HX
           have HI1 : Hid (i + 1 ≤ ln) := hide (by omega)
           cases R with
           | true =>
            have HR' : Hid (sameL (l.take (i + 1)) (l'.take (i + 1)) = true) := hide (by
             rw [sameL_next l l' i y y' (uh HY).1 (uh HY).2, uh HR, uh HRR]; rfl)
            go_wp2_with fail
            go_roundw
            case rel => exact ⟨i + 1, uh HI1, by go_num, HX5, HR'⟩
            case measure => have := uh HI1; simp [intOf]; omega
           | false =>
            have HG2 : Hid (sameB (.mk k n s l ks) (.mk k n s' l' ks') = false) := hide (by
             obtain ⟨e1, e2, e3, e4⟩ := uh HL
             rw [uh HG, sameL_no l l' i y y' (uh HY).1 (uh HY).2 (by omega) (uh HRR), Bool.and_false])
            go_wp2_with fail
            go_ret
            exact ⟨by rw [uh HG2]; rfl, by first | exact (uh HB).trans ((uh HX5).mono (by have := (uh HT).size; omega)) | (rw [← hg]; exact (uh HB).trans ((uh HX5).mono (by have := (uh HT).size; omega)))⟩
         ·have i3 : ¬ (i : Int) < (ln : Int) := by omega
          have HG2 : Hid (sameB (.mk k n s l ks) (.mk k n s' l' ks') = true) := hide (by
           obtain ⟨e1, e2, e3, e4⟩ := uh HL
           have h := uh HR
           rw [List.take_of_length_le (by omega), List.take_of_length_le (by omega)] at h
           rw [uh HG, h, decide_eq_true (uh HK)]; rfl)
          go_wp2_with fail
          go_ret
          exact ⟨by rw [uh HG2]; rfl, by first | exact (uh HB).trans ((uh HX).mono (by have := (uh HT).size; omega)) | (rw [← hg]; exact (uh HB).trans ((uh HX).mono (by have := (uh HT).size; omega)))⟩
     ·have h5' : (m : Int) ≠ (m' : Int) := by omega
      have hs1 : (!(s.toList == s'.toList)) = false := by rw [h3]; rfl
      have HG : Hid (sameB (.mk k n s l ks) (.mk k n s' l' ks') = false) := hide (by
       obtain ⟨e1, e2, e3, e4⟩ := uh HL
       have : ¬ ks = ks' := fun e => h5 (by rw [← e1, ← e3, e])
       simp [sameB, this])
      have hb : ((m : Int) != (m' : Int)) = true := by simpa using h5'
      clear h5 h5' h3
      go_enter Tryz.func14, Tryz.ntmps14
      go_wp2_with fail
      go_ret
      exact ⟨by rw [uh HG]; rfl, by first | exact uh HB | (rw [← hg]; exact uh HB)⟩
    ·have h4' : (ln : Int) ≠ (ln' : Int) := by omega
     have hs1 : (!(s.toList == s'.toList)) = false := by rw [h3]; rfl
     have HG : Hid (sameB (.mk k n s l ks) (.mk k n s' l' ks') = false) := hide (by
      obtain ⟨e1, e2, e3, e4⟩ := uh HL
      simp [sameB, e2, e4, h4])
     have hb : ((ln : Int) != (ln' : Int)) = true := by simpa using h4'
     clear h4 h4' h3
     go_enter Tryz.func14, Tryz.ntmps14
     go_wp2_with fail
     go_ret
     exact ⟨by rw [uh HG]; rfl, by first | exact uh HB | (rw [← hg]; exact uh HB)⟩
   | false =>
    have HG : Hid (sameB (.mk k n s l ks) (.mk k n s' l' ks') = false) := hide (by simp only [sameB]; rw [h3]; simp)
    have hs1 : (!(s.toList == s'.toList)) = true := by rw [h3]; rfl
    go_enter Tryz.func14, Tryz.ntmps14
    go_wp2_with fail
    go_ret
    exact ⟨by rw [uh HG]; rfl, by first | exact uh HB | (rw [← hg]; exact uh HB)⟩
  ·have HG : Hid (sameB (.mk k n s l ks) (.mk k n' s' l' ks') = false) := hide (by simp [sameB, h2])
   have hb : (n != n') = true := by simpa using h2
   clear h2
   go_enter Tryz.func14, Tryz.ntmps14
   go_wp2_with fail
   go_ret
   exact ⟨by rw [uh HG]; rfl, by first | exact uh HB | (rw [← hg]; exact uh HB)⟩
 ·have HG : Hid (sameB (.mk k n s l ks) (.mk k' n' s' l' ks') = false) := hide (by simp [sameB, h1])
  have hb : (k != k') = true := by simpa using h1
  clear h1
  go_enter Tryz.func14, Tryz.ntmps14
  go_wp2_with fail
  go_ret
  exact ⟨by rw [uh HG]; rfl, by first | exact uh HB | (rw [← hg]; exact uh HB)⟩
theorem same3_any : ∀ b, Same3At b
 | 0 => same3_zero
 | b + 1 => same3_step b (same3_any b)
theorem sized_any (v : Vl) (x : Value) (B : Nat) (w : World) (hv : IsV w B v x) (hBs : B ≤ w.heap.size) :
  Calls Tryz.prog 131 #[x] w fun e w' => ∃ x', e = .returned (.tuple #[x', .int .i64 (if rightB v = true then 0 else 33)]) ∧ Below w.heap.size w w' ∧ (rightB v = true → IsQ w' (fun b => w.heap.size ≤ b ∧ b < w'.heap.size) v x') ∧ (rightB v = false → x' = .agg #[.int .i64 0, .int .i64 0, .string ⟨#[]⟩, .slice none 0 0, .slice none 0 0]) := by
 obtain ⟨k, n, s, l, ks, al, ak, cl, ck, hvv, hx⟩ := hv.shape
 clear hvv
 obtain ⟨m, hm⟩ : ∃ m, ks.length = m := ⟨_, rfl⟩
 obtain ⟨ln, hln⟩ : ∃ ln, l.length = ln := ⟨_, rfl⟩
 rw [hm, hln] at hx
 subst hx
 have TW := Two.mk' w 25 #[.int .i64 k, .int .i64 n, .string s, .slice al ln cl, .slice ak m ck] #[.int .i64 0, .int .i64 0, .string ⟨#[]⟩, .slice none 0 0, .slice none 0 0]
 obtain ⟨w2, hw2⟩ : ∃ w2, (w.alloc (.cells #[.int .i64 k, .int .i64 n, .string s, .slice al ln cl, .slice ak m ck] 25)).alloc (.cells #[.int .i64 0, .int .i64 0, .string ⟨#[]⟩, .slice none 0 0, .slice none 0 0] 25) = w2 := ⟨_, rfl⟩
 rw [hw2] at TW
 obtain ⟨g, hg⟩ : ∃ g, w.heap.size = g := ⟨_, rfl⟩
 rw [hg] at TW
 have HT : Hid (∀ u, Below w2.heap.size w2 u → u.heap[g]? = some (.cells #[.int .i64 k, .int .i64 n, .string s, .slice al ln cl, .slice ak m ck] 25 (0, 0)) ∧ u.heap[g + 1]? = some (.cells #[.int .i64 0, .int .i64 0, .string ⟨#[]⟩, .slice none 0 0, .slice none 0 0] 25 (0, 0)) ∧ IsV u B v (.agg #[.int .i64 k, .int .i64 n, .string s, .slice al ln cl, .slice ak m ck]) ∧ B ≤ u.heap.size ∧ Below w.heap.size w u ∧ g + 2 ≤ u.heap.size) :=
  hide (fun u hu => by
   have h1 : Below w.heap.size w u := TW.below.trans (hu.mono (by have := TW.size; omega))
   have h2 := TW.size
   have h3 := hu.size
   exact ⟨(TW.later hu).1, (TW.later hu).2, hv.mono (h1.mono hBs), by omega, h1, by omega⟩)
 obtain ⟨c0, c1, c2, c3, c4⟩ := row_cell TW.at0
 have CF := hide (right_code v _ B w2 (uh HT w2 (Below.refl _ _)).2.2.1 (uh HT w2 (Below.refl _ _)).2.2.2.1)
 clear TW hv hm hln
 cases hF : rightB v with
 | false =>
  rw [hF] at CF
  clear hF
  go_enter Tryz.func131, Tryz.ntmps131
  go_wp2_with fail
  refine (uh CF).mono ?_
  rintro e u3 ⟨rfl, b3⟩
  have H3 := hide b3
  clear b3 CF c0 c1 c2 c3 c4
  obtain ⟨c0, c1, c2, c3, c4⟩ := row_cell (uh HT u3 (uh H3)).1
  have ATX := (uh HT u3 (uh H3)).2.1
  obtain ⟨z0, z1, z2, z3, z4⟩ := row_cell ATX
  have fz : ∀ q, u3.frozen? ⟨g + 1, q, none⟩ = false := fun q => frozen_of_row u3 (g + 1) q _ _ ATX
  have fz0 := fz 0
  have fz1 := fz 1
  have fz2 := fz 2
  have fz3 := fz 3
  have fz4 := fz 4
  have HAT := hide ATX
  clear fz ATX
  go_wp2_with fail
  have ATX := uh HAT
  have BW := (uh HT u3 (uh H3)).2.2.2.2.1
  have R9 := five_set u3 (g + 1) 25 _ _ _ _ _ (.int .i64 0) (.int .i64 0) (.string ⟨#[]⟩) (.slice none 0 0) (.slice none 0 0) ATX
  have O9 := five_other u3 (g + 1) (x0 := .int .i64 0) (x1 := .int .i64 0) (x2 := .string ⟨#[]⟩) (x3 := .slice none 0 0) (x4 := .slice none 0 0)
  have S9 : (((((u3.setCell ⟨g + 1, 0, none⟩ (.int .i64 0)).setCell ⟨g + 1, 1, none⟩ (.int .i64 0)).setCell ⟨g + 1, 2, none⟩ (.string ⟨#[]⟩)).setCell ⟨g + 1, 3, none⟩ (.slice none 0 0)).setCell ⟨g + 1, 4, none⟩ (.slice none 0 0)).heap.size = u3.heap.size := by simp
  obtain ⟨w9, hw9⟩ : ∃ w9, (((((u3.setCell ⟨g + 1, 0, none⟩ (.int .i64 0)).setCell ⟨g + 1, 1, none⟩ (.int .i64 0)).setCell ⟨g + 1, 2, none⟩ (.string ⟨#[]⟩)).setCell ⟨g + 1, 3, none⟩ (.slice none 0 0)).setCell ⟨g + 1, 4, none⟩ (.slice none 0 0)) = w9 := ⟨_, rfl⟩
  rw [hw9] at R9 S9 ⊢
  have B9 : Below w.heap.size w w9 := by rw [← hw9]; exact five_below BW (by omega) _ _ _ _ _
  obtain ⟨r0, r1, r2, r3, r4⟩ := row_cell R9
  refine bodyPost_ret (v := .tuple #[.agg #[.int .i64 0, .int .i64 0, .string ⟨#[]⟩, .slice none 0 0, .slice none 0 0], .int .i64 33]) (by simp [results, Tryz.results131, go_sem, r0, r1, r2, r3, r4]) rfl ?_
  first | exact ⟨rfl, B9⟩ | (rw [hg] at B9; exact ⟨rfl, B9⟩)
 | true =>
  rw [hF] at CF
  have hcn : cnt v ≤ 5000 := by have h := few_right hF; unfold fewB at h; exact of_decide_eq_true h
  have CD := fun u hu => hide (cln_any (dep v) v _ B u (Nat.le_refl _) hcn (uh HT u hu).2.2.1 (uh HT u hu).2.2.2.1)
  clear hF hcn
  go_enter Tryz.func131, Tryz.ntmps131
  go_wp2_with fail
  refine (uh CF).mono ?_
  rintro e u3 ⟨rfl, b3⟩
  have H3 := hide b3
  clear b3 CF c0 c1 c2 c3 c4
  obtain ⟨c0, c1, c2, c3, c4⟩ := row_cell (uh HT u3 (uh H3)).1
  go_wp2_with fail
  refine (uh (CD u3 (uh H3))).mono ?_
  rintro e u4 ⟨x4, rfl, p4, b4⟩
  obtain ⟨k4, n4, s4, l4, ks4, al4, ak4, cl4, ck4, hv4, rfl⟩ := p4.shape
  clear hv4
  obtain ⟨lc, hlc⟩ : ∃ lc, l4.length = lc := ⟨_, rfl⟩
  obtain ⟨mc, hmc⟩ : ∃ mc, ks4.length = mc := ⟨_, rfl⟩
  rw [hlc, hmc] at p4 ⊢
  have X4 := (uh H3).trans (b4.mono (uh H3).size)
  have H4 := hide (And.intro X4 (And.intro p4 b4.size))
  have ATX := (uh HT u4 X4).2.1
  obtain ⟨z0, z1, z2, z3, z4⟩ := row_cell ATX
  have fz : ∀ q, u4.frozen? ⟨g + 1, q, none⟩ = false := fun q => frozen_of_row u4 (g + 1) q _ _ ATX
  have fz0 := fz 0
  have fz1 := fz 1
  have fz2 := fz 2
  have fz3 := fz 3
  have fz4 := fz 4
  have HAT := hide ATX
  clear fz ATX p4 b4 X4 CD hlc hmc c0 c1 c2 c3 c4
  go_wp2_with fail
  have ATX := uh HAT
  have BW := (uh HT u4 (uh H4).1).2.2.2.2.1
  have g3 := (uh HT u3 (uh H3)).2.2.2.2.2
  have R9 := five_set u4 (g + 1) 25 _ _ _ _ _ (.int .i64 k4) (.int .i64 n4) (.string s4) (.slice al4 lc cl4) (.slice ak4 mc ck4) ATX
  have O9 := five_other u4 (g + 1) (x0 := .int .i64 k4) (x1 := .int .i64 n4) (x2 := .string s4) (x3 := .slice al4 lc cl4) (x4 := .slice ak4 mc ck4)
  have S9 : (((((u4.setCell ⟨g + 1, 0, none⟩ (.int .i64 k4)).setCell ⟨g + 1, 1, none⟩ (.int .i64 n4)).setCell ⟨g + 1, 2, none⟩ (.string s4)).setCell ⟨g + 1, 3, none⟩ (.slice al4 lc cl4)).setCell ⟨g + 1, 4, none⟩ (.slice ak4 mc ck4)).heap.size = u4.heap.size := by simp
  obtain ⟨w9, hw9⟩ : ∃ w9, (((((u4.setCell ⟨g + 1, 0, none⟩ (.int .i64 k4)).setCell ⟨g + 1, 1, none⟩ (.int .i64 n4)).setCell ⟨g + 1, 2, none⟩ (.string s4)).setCell ⟨g + 1, 3, none⟩ (.slice al4 lc cl4)).setCell ⟨g + 1, 4, none⟩ (.slice ak4 mc ck4)) = w9 := ⟨_, rfl⟩
  rw [hw9] at R9 S9 ⊢
  have B9 : Below w.heap.size w w9 := by rw [← hw9]; exact five_below BW (by omega) _ _ _ _ _
  obtain ⟨r0, r1, r2, r3, r4⟩ := row_cell R9
  refine bodyPost_ret (v := .tuple #[.agg #[.int .i64 k4, .int .i64 n4, .string s4, .slice al4 lc cl4, .slice ak4 mc ck4], .int .i64 0]) (by simp [results, Tryz.results131, go_sem, r0, r1, r2, r3, r4]) rfl ?_
  have Q9 : IsQ w9 (fun b => w.heap.size ≤ b ∧ b < w9.heap.size) v (.agg #[.int .i64 k4, .int .i64 n4, .string s4, .slice al4 lc cl4, .slice ak4 mc ck4]) := ((uh H4).2.1.move (fun q hq => by rw [← hw9]; exact O9 q (by have := hq.1; omega))).weak (fun q hq => ⟨by have := hq.1; omega, by have := hq.2; omega⟩)
  first | exact ⟨_, rfl, B9, Q9⟩ | (rw [hg] at B9 Q9; exact ⟨_, rfl, B9, Q9⟩)
abbrev bl (a b : ByteArray) : Bool := Op.bytesLess a.toList b.toList
theorem kl_tr : ∀ (a b c : List UInt8), Op.bytesLess a b = true → Op.bytesLess b c = true → Op.bytesLess a c = true
 | [], b, [], _, h => by cases b <;> simp [Op.bytesLess] at h
 | [], _, c :: z, _, _ => by simp [Op.bytesLess]
 | a :: x, [], _, h, _ => by simp [Op.bytesLess] at h
 | a :: x, b :: y, [], _, h => by simp [Op.bytesLess] at h
 | a :: x, b :: y, c :: z, h1, h2 => by
  have ih := kl_tr x y z
  simp only [Op.bytesLess, Bool.or_eq_true, Bool.and_eq_true, decide_eq_true_eq, beq_iff_eq] at h1 h2 ⊢
  rcases h1 with h1 | ⟨rfl, h1⟩
  ·rcases h2 with h2 | ⟨rfl, h2⟩
   ·exact .inl (UInt8.lt_trans h1 h2)
   ·exact .inl h1
  ·rcases h2 with h2 | ⟨rfl, h2⟩
   ·exact .inl h2
   ·exact .inr ⟨rfl, ih h1 h2⟩
theorem kb_inj {a b : ByteArray} (h : a.toList = b.toList) : a = b := by
 rw [ByteArray.toList_eq, ByteArray.toList_eq] at h
 exact Go.WideShapes.bytes_inj h
theorem kb_beq (a b : ByteArray) : (a.toList == b.toList) = true ↔ a = b := by
 rw [beq_iff_eq]
 exact ⟨kb_inj, fun h => by rw [h]⟩
theorem kl_irr (a : ByteArray) : bl a a = false := by
 have h := bl_not a.toList a.toList
 cases hb : Op.bytesLess a.toList a.toList with
 | false => exact hb
 | true => rw [hb] at h; simp at h
theorem kl_trans {a b c : ByteArray} (h1 : bl a b = true) (h2 : bl b c = true) : bl a c = true := kl_tr _ _ _ h1 h2
theorem kl_tri (a b : ByteArray) : bl a b = true ∨ a = b ∨ bl b a = true := by
 have h := bl_not a.toList b.toList
 cases h1 : bl a b with
 | true => exact .inl rfl
 | false =>
  cases h2 : bl b a with
  | true => exact .inr (.inr rfl)
  | false =>
   have h1' : Op.bytesLess a.toList b.toList = false := h1
   have h2' : Op.bytesLess b.toList a.toList = false := h2
   rw [h1', h2'] at h
   simp at h
   exact .inr (.inl (kb_inj h.symm))
theorem kl_asym {a b : ByteArray} (h : bl a b = true) : bl b a = false := by
 cases hb : bl b a with
 | false => rfl
 | true => have := kl_trans h hb; rw [kl_irr] at this; cases this
def RisesK (ks : List ByteArray) : Prop := ∀ (i j : Nat) (p q : ByteArray), i < j → ks[i]? = some p → ks[j]? = some q → bl p q = true
theorem nanC (a : ByteArray) (w : World) : Calls Tryz.prog 160 #[.string a] w fun e w' => e = .returned (.bool false) ∧ w' = w := by
 go_enter Tryz.func160, Tryz.ntmps160
 go_wp2_with fail
 go_ret
 simp
theorem nanS (a : ByteArray) (w : World) : Calls Tryz.prog 139 #[.string a] w fun e w' => e = .returned (.bool false) ∧ w' = w := by
 go_enter Tryz.func139, Tryz.ntmps139
 go_wp2_with fail
 go_ret
 simp
theorem lessS (a b : ByteArray) (w : World) : Calls Tryz.prog 138 #[.string a, .string b] w fun e w' => e = .returned (.bool (bl a b)) ∧ w' = w := by
 go_enter Tryz.func138, Tryz.ntmps138
 go_wp2_with fail
 refine (nanC a w).mono ?_
 rintro e u ⟨rfl, rfl⟩
 go_wp2_with fail
 go_ret
 simp [Array.getD]
theorem search_any (ks : List ByteArray) (ak : Option Addr) (ck : Nat) (w : World) (h : IsK w ks ak ck) (hr : RisesK ks) (k : ByteArray) : Calls Tryz.prog 113 #[.slice ak ks.length ck, .string k] w fun e w' =>
  ∃ L : Nat, e = .returned (.tuple #[.int .i64 L, .bool (decide (ks[L]? = some k))]) ∧ L ≤ ks.length ∧ (∀ i p, ks[i]? = some p → (i < L ↔ bl p k = true)) ∧ w' = w := by
 obtain ⟨n, hn⟩ : ∃ n, ks.length = n := ⟨_, rfl⟩
 have hnb := h.bnd
 have hlc := h.len
 rw [hn] at hnb hlc ⊢
 have HC : Hid (∀ i p, ks[i]? = some p → ∃ a, ak = some a ∧ w.cell? (a.add i) = some (.string p)) := hide (fun i p hp => by
  cases ak with
  | none =>
   have := (List.getElem?_eq_some_iff.1 hp).1
   have := h.none rfl
   omega
  | some ad => exact ⟨ad, rfl, h.cell ad rfl i p hp⟩)
 have HR := hide hr
 have HN := hide hn
 have CL : Hid (∀ (a b : ByteArray) (u : World), Calls Tryz.prog 138 #[.string a, .string b] u fun e w' => e = .returned (.bool (bl a b)) ∧ w' = u) := hide lessS
 clear h hr hn
 go_enter Tryz.func113, Tryz.ntmps113
 go_wp2_with fail
 go_loopw [7, 8] (fun x y wr => ∃ lo hi : Nat, x = .int .i64 lo ∧ y = .int .i64 hi ∧ wr = w ∧ lo ≤ hi ∧ hi ≤ n ∧ Hid (∀ i p, ks[i]? = some p → (i < lo → bl p k = true) ∧ (hi ≤ i → bl p k = false))) (fun x y _ => (intOf y).toNat - (intOf x).toNat)
 case atStart =>
  refine ⟨0, n, rfl, rfl, rfl, by omega, by omega, hide (fun i p hp => ⟨fun h => by omega, fun h => ?_⟩)⟩
  have := (List.getElem?_eq_some_iff.1 hp).1
  have := uh HN
  omega
 case round =>
  obtain ⟨lo, hi, rfl, rfl, rfl, h1, h2, HI⟩ := hrel
  by_cases hlt : lo < hi
  ·have hlt' : (lo : Int) < (hi : Int) := by omega
   obtain ⟨m, hm⟩ : ∃ m : Nat, (m : Int) = ((lo : Int) + (hi : Int)) / 2 := ⟨(lo + hi) / 2, by omega⟩
   have hm1 : lo ≤ m := by omega
   have hm2 : m < hi := by omega
   obtain ⟨p, hp⟩ : ∃ p, ks[m]? = some p := ⟨_, List.getElem?_eq_getElem (by have := uh HN; omega)⟩
   obtain ⟨a, rfl, cm⟩ := uh HC m p hp
   go_upto_region 4 with fail
   go_cut [9] from 13 to 30 (fun r wx => r = .int .i64 (m : Int) ∧ wx = wr)
   case first =>
    go_wp2_with fail
    go_meet
    exact ⟨congrArg (Value.int .i64) hm.symm, rfl⟩
   case rest =>
    obtain ⟨rfl, hwc⟩ := hcut
    obtain rfl := hwc.symm
    clear hwc hm
    have C1 := hide (uh CL p k wr)
    cases hk : bl p k with
    | true =>
     rw [hk] at C1
     go_wp2_with fail
     refine (uh C1).mono ?_
     rintro e u ⟨rfl, rfl⟩
     go_wp2_with fail
     refine ⟨⟨m + 1, hi, by rw [Int.natCast_add]; rfl, rfl, trivial, by omega, h2, hide (fun i q hq => ⟨fun hi' => ?_, (uh HI i q hq).2⟩)⟩, by simp [intOf]; omega⟩
     by_cases him : i = m
     ·subst him
      rw [hp] at hq
      cases hq
      exact hk
     ·exact kl_trans (uh HR i m q p (by omega) hq hp) hk
    | false =>
     rw [hk] at C1
     go_wp2_with fail
     refine (uh C1).mono ?_
     rintro e u ⟨rfl, rfl⟩
     go_wp2_with fail
     refine ⟨⟨lo, m, rfl, rfl, trivial, hm1, by omega, hide (fun i q hq => ⟨(uh HI i q hq).1, fun hi' => ?_⟩)⟩, by simp [intOf]; omega⟩
     by_cases him : i = m
     ·subst him
      rw [hp] at hq
      cases hq
      exact hk
     ·have h1 := uh HR m i p q (by omega) hp hq
      cases h2 : bl q k with
      | false => rfl
      | true => rw [kl_trans h1 h2] at hk; cases hk
  ·obtain rfl : hi = lo := by omega
   have HL : Hid (hi ≤ n ∧ ∀ i p, ks[i]? = some p → (i < hi ↔ bl p k = true)) := hide ⟨h2, fun i p hp => ⟨(uh HI i p hp).1, fun h => by
    rcases Nat.lt_or_ge i hi with hc | hc
    ·exact hc
    ·rw [(uh HI i p hp).2 hc] at h
     cases h⟩⟩
   have CN : Hid (∀ (a : ByteArray) (u : World), Calls Tryz.prog 139 #[.string a] u fun e w' => e = .returned (.bool false) ∧ w' = u) := hide nanS
   by_cases hl : hi < n
   ·obtain ⟨p, hp⟩ : ∃ p, ks[hi]? = some p := ⟨_, List.getElem?_eq_getElem (by have := uh HN; omega)⟩
    obtain ⟨a, rfl, cm⟩ := uh HC hi p hp
    have hl' : (hi : Int) < (n : Int) := by omega
    have HP := hide hp
    clear hp
    cases hpk : (p.toList == k.toList) with
    | true =>
     have HE : Hid (p = k) := hide ((kb_beq p k).1 hpk)
     go_wp2_with fail
     go_ret2
     refine ⟨hi, ?_, (uh HL).1, (uh HL).2, rfl⟩
     rw [uh HP, uh HE]
     simp
    | false =>
     have HE : Hid (¬ p = k) := hide (fun e => by rw [(kb_beq p k).2 e] at hpk; cases hpk)
     go_wp2_with fail
     refine (uh CN p wr).mono ?_
     rintro e u ⟨rfl, rfl⟩
     go_wp2_with fail
     go_ret2
     refine ⟨hi, ?_, (uh HL).1, (uh HL).2, rfl⟩
     rw [uh HP]
     simp [uh HE]
   ·have hl' : decide ((hi : Int) < (n : Int)) = false := by simp; omega
    have hl2 : decide (hi < n) = false := by simp; omega
    go_wp2_with fail
    go_ret2
    refine ⟨hi, ?_, (uh HL).1, (uh HL).2, rfl⟩
    rw [List.getElem?_eq_none (by have := uh HN; omega)]
    simp
end Go.Proofs.YtgkmdjmigehmeaaGreatDoor
