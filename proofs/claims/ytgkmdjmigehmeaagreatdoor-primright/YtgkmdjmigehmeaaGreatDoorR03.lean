/-
  The walk of order: two right values, one step of the recursion more; no conditions but the form's own reach.
-/
import Derived.Test.YtgkmdjmigehmeaaGreatDoorR02
import Derived.Deep.RegionHeld3
import Derived.WalkSpells
import Derived.Deep.QuietTactic
namespace Go.Proofs.YtgkmdjmigehmeaaGreatDoor
set_option linter.unusedVariables false
set_option linter.unusedSimpArgs false
set_option maxRecDepth 100000
set_option maxHeartbeats 16000000
open Go.RowKit
def OrderAt (b : Nat) : Prop := ∀ (v v' : Vl) (x x' : Value) (B : Nat) (w : World), okB b v = true → okB b v' = true → IsV w B v x → IsV w B v' x' → B ≤ w.heap.size →
  Calls Tryz.prog 150 #[x, x'] w fun e w' => e = .returned (.int .i64 (ord v v')) ∧ Below w.heap.size w w'
theorem order_zero : OrderAt 0 := by
 intro v v' x x' B w h
 cases v
 simp [okB] at h
theorem cmpI_zero {a b : Int} (h : cmpI a b = 0) : a = b := by
 unfold cmpI at h
 split at h
 ·cases h
 ·split at h
  ·cases h
  ·omega
theorem form_rec {kind n : Int} {s : ByteArray} {ll : Nat} {ks : List ByteArray} (h : formB kind n s ll ks = true) (h5 : kind = 5) : ks.length = ll := by
 subst h5
 unfold formB formM at h
 simp at h
 exact h.1.2
theorem below_drewO {B : Nat} {a w : World} (h : Below B a w) (q : Nat) : Below B a (w.drewN q) := ⟨h.os, h.tape, h.output, h.size, h.block⟩
structure TwoO (w w2 : World) (g : Nat) (T : TypeId) (x y : Array Value) : Prop where
 at0 : w2.heap[g]? = some (.cells x T (0, 0))
 at1 : w2.heap[g + 1]? = some (.cells y T (0, 0))
 size : w2.heap.size = g + 2
 below : Below w.heap.size w w2
theorem TwoO.mk' (w : World) (T : TypeId) (x y : Array Value) : TwoO w ((w.alloc (.cells x T)).alloc (.cells y T)) w.heap.size T x y := by
 have h1 : Below w.heap.size w ((w.alloc (.cells x T)).alloc (.cells y T)) := ((Below.refl _ _).alloc (Nat.le_refl _) _).alloc (by simp) _
 refine ⟨?_, ?_, by simp, h1⟩
 ·have := ((Below.refl (w.alloc (.cells x T)).heap.size (w.alloc (.cells x T))).alloc (Nat.le_refl _) (.cells y T)).block w.heap.size (by simp)
  rw [this]
  exact heap_alloc_new w _
 ·have := heap_alloc_new (w.alloc (.cells x T)) (.cells y T)
  simpa using this
theorem TwoO.later {w w2 u : World} {g : Nat} {T : TypeId} {x y : Array Value} (h : TwoO w w2 g T x y) (hb : Below w2.heap.size w2 u) : u.heap[g]? = some (.cells x T (0, 0)) ∧ u.heap[g + 1]? = some (.cells y T (0, 0)) := by
 have := h.size
 exact ⟨(hb.block g (by omega)).trans h.at0, (hb.block (g + 1) (by omega)).trans h.at1⟩
theorem order_step (b : Nat) (ih : OrderAt b) : OrderAt (b + 1) := by
 intro v v' x x' B w ho ho' hv hv' hBs
 obtain ⟨k, n, s, l, ks, al, ak, cl, ck, rfl, rfl⟩ := hv.shape
 obtain ⟨k', n', s', l', ks', al', ak', cl', ck', rfl, rfl⟩ := hv'.shape
 obtain ⟨m, hm⟩ : ∃ m, ks.length = m := ⟨_, rfl⟩
 obtain ⟨ln, hln⟩ : ∃ ln, l.length = ln := ⟨_, rfl⟩
 obtain ⟨m', hm'⟩ : ∃ m', ks'.length = m' := ⟨_, rfl⟩
 obtain ⟨ln', hln'⟩ : ∃ ln', l'.length = ln' := ⟨_, rfl⟩
 rw [hm, hln] at hv
 rw [hm', hln'] at hv'
 rw [hm, hln, hm', hln']
 simp only [okB, Bool.and_eq_true] at ho ho'
 have hb1 : ln ≤ 140737488351232 ∧ ln' ≤ 140737488351232 := by
  obtain ⟨_, _, _, h1, h2, V, hf, _⟩ := IsP.at hv
  obtain ⟨_, _, _, h1', h2', V', hf', _⟩ := IsP.at hv'
  have := hf.bl
  have := hf'.bl
  omega
 obtain ⟨hlb, hlb'⟩ := hb1
 have TW := TwoO.mk' w 25 #[.int .i64 k, .int .i64 n, .string s, .slice al ln cl, .slice ak m ck] #[.int .i64 k', .int .i64 n', .string s', .slice al' ln' cl', .slice ak' m' ck']
 obtain ⟨w2, hw2⟩ : ∃ w2, (w.alloc (.cells #[.int .i64 k, .int .i64 n, .string s, .slice al ln cl, .slice ak m ck] 25)).alloc (.cells #[.int .i64 k', .int .i64 n', .string s', .slice al' ln' cl', .slice ak' m' ck'] 25) = w2 := ⟨_, rfl⟩
 rw [hw2] at TW
 obtain ⟨g, hg⟩ : ∃ g, w.heap.size = g := ⟨_, rfl⟩
 rw [hg] at TW
 have HT := hide TW
 have HV : Hid (∀ u, Below w2.heap.size w2 u → IsV u B (.mk k n s l ks) (.agg #[.int .i64 k, .int .i64 n, .string s, .slice al ln cl, .slice ak m ck]) ∧ IsV u B (.mk k' n' s' l' ks') (.agg #[.int .i64 k', .int .i64 n', .string s', .slice al' ln' cl', .slice ak' m' ck'])) :=
  hide (fun u hu => by
   have h1 : Below B w u := (TW.below.mono (by omega)).trans (hu.mono (by have := TW.size; omega))
   exact ⟨hv.mono h1, hv'.mono h1⟩)
 have HB : Hid (Below w.heap.size w w2) := hide TW.below
 obtain ⟨c0, c1, c2, c3, c4⟩ := row_cell TW.at0
 obtain ⟨d0, d1, d2, d3, d4⟩ := row_cell TW.at1
 have HL := hide (And.intro hm (And.intro hln (And.intro hm' hln')))
 have HO := hide (And.intro ho ho')
 clear TW hv hv' ho ho' hm hln hm' hln'
 have CI := fun a b => hide (cmp_i a b w2)
 have CJ := fun a b => hide (cmp_j a b w2)
 have CS := fun a b => hide (cmp_s a b w2)
 by_cases h1 : cmpI k k' = 0
 ·have hk := cmpI_zero h1
  subst hk
  by_cases h2 : cmpI n n' = 0
  ·by_cases h3 : cmpS s s' = 0
   ·have HG : Hid (ord (.mk k n s l ks) (.mk k n' s' l' ks') = ordL (decide (k = 5)) l ks l' ks') := hide (by
     simp only [ord, h1, h2, h3]; simp)
    have C1 := CI k k
    have C2 := CJ n n'
    have C3 := CS s s'
    rw [h1] at C1
    rw [h2] at C2
    rw [h3] at C3
    clear h1 h2 h3 CI CJ CS
    go_enter Tryz.func150, Tryz.ntmps150
    go_wp2_with fail
    refine (uh C1).mono ?_
    rintro e w2 ⟨rfl, rfl⟩
    go_wp2_with fail
    refine (uh C2).mono ?_
    rintro e w2 ⟨rfl, rfl⟩
    go_wp2_with fail
    refine (uh C3).mono ?_
    rintro e w2 ⟨rfl, rfl⟩
    clear C1 C2 C3
    obtain ⟨M, hM⟩ : ∃ M, min ln ln' = M := ⟨_, rfl⟩
    have HM := hide hM
    clear hM
    go_upto_region 10 with fail
    go_cut [40, 41] from 10 to 41 (fun y x wx => y = .int .i64 (M : Int) ∧ x = .int .i64 0 ∧ wx = w2)
    case first =>
     go_wp2_with fail
     all_goals (go_meet; exact ⟨congrArg (Value.int .i64) (by have := uh HM; omega), rfl, rfl⟩)
    case rest =>
     obtain ⟨rfl, rfl, hwc⟩ := hcut
     obtain rfl := hwc.symm
     clear c0 c1 c2 c3 c4 d0 d1 d2 d3 d4
     go_wp2_with fail
     go_loopw [41] (fun x wr => ∃ (i : Nat), i ≤ M ∧ x = .int .i64 i ∧ Hid (Below w2.heap.size w2 wr) ∧ Hid (ordL (decide (k = 5)) l ks l' ks' = ordL (decide (k = 5)) (l.drop i) (ks.drop i) (l'.drop i) (ks'.drop i))) (fun x _ => M - (intOf x).toNat)
     case atStart => exact ⟨0, Nat.zero_le _, rfl, hide (Below.refl _ _), hide rfl⟩
     case round =>
      obtain ⟨i, hi, rfl, HX, HR⟩ := hrel
      obtain ⟨r0, r1⟩ := (uh HT).later (uh HX)
      obtain ⟨c0, c1, c2, c3, c4⟩ := row_cell r0
      obtain ⟨d0, d1, d2, d3, d4⟩ := row_cell r1
      clear r0 r1
      by_cases hlt : i < M
      ·have hMl : M ≤ ln ∧ M ≤ ln' := by have := uh HM; omega
       have i1 : (i : Int) < (M : Int) := by omega
       have i2 : (i : Int) < (ln : Int) := by omega
       have i3 : (i : Int) < (ln' : Int) := by omega
       obtain ⟨v1, v2⟩ := uh HV wr (uh HX)
       obtain ⟨y, hy⟩ : ∃ y, l[i]? = some y := ⟨_, List.getElem?_eq_getElem (by have := (uh HL).2.1; omega)⟩
       obtain ⟨y', hy'⟩ : ∃ y', l'[i]? = some y' := ⟨_, List.getElem?_eq_getElem (by have := (uh HL).2.2.2; omega)⟩
       have hos := ordL_step (decide (k = 5)) l l' ks ks' i y y' hy hy'
       have HS := hide hos
       have HY := hide (And.intro hy hy')
       have HVV := hide (And.intro v1 v2)
       have hBr : B ≤ wr.heap.size := by have := (uh HX).size; have := (uh HT).size; omega
       clear hos hy hy' v1 v2 hMl
       by_cases h5 : k = 5
       ·subst h5
        have hmm : m = ln ∧ m' = ln' := by
         have h1 := form_rec (uh HO).1.1 rfl
         have h2 := form_rec (uh HO).2.1 rfl
         obtain ⟨e1, e2, e3, e4⟩ := uh HL
         omega
        obtain ⟨rfl, rfl⟩ := hmm
        obtain ⟨tk, htk⟩ : ∃ tk, ks[i]? = some tk := ⟨_, List.getElem?_eq_getElem (by have := (uh HL).1; omega)⟩
        obtain ⟨tk', htk'⟩ : ∃ tk', ks'[i]? = some tk' := ⟨_, List.getElem?_eq_getElem (by have := (uh HL).2.2.1; omega)⟩
        obtain ⟨a2, rfl⟩ : ∃ a2, ak = some a2 := by
         cases ak with
         | none => have h1 := (uh HVV).1.keys.1.none rfl; have h2 := (uh HL).1; omega
         | some a2 => exact ⟨a2, rfl⟩
        obtain ⟨a2', rfl⟩ : ∃ a2', ak' = some a2' := by
         cases ak' with
         | none => have h1 := (uh HVV).2.keys.1.none rfl; have h2 := (uh HL).2.2.1; omega
         | some a2 => exact ⟨a2, rfl⟩
        have cK := (uh HVV).1.keys.1.cell a2 rfl i tk htk
        have cK' := (uh HVV).2.keys.1.cell a2' rfl i tk' htk'
        have e1 : ks.getD i ⟨#[]⟩ = tk := by simp [List.getD, htk]
        have e2 : ks'.getD i ⟨#[]⟩ = tk' := by simp [List.getD, htk']
        have hs := uh HS
        rw [e1, e2] at hs
        have HS2 := hide hs
        have k5 : ((5 : Int) == 5) = true := by decide
        have HTK := hide (And.intro htk htk')
        clear e1 e2 hs htk htk' HS
        cases hbe : (tk.toList == tk'.toList) with
        | false =>
         have hc0 : cmpS tk tk' ≠ 0 := fun e => by
          have := (cmpS_zero tk tk').1 e
          rw [this] at hbe
          simp at hbe
         have HG2 : Hid (ord (.mk 5 n s l ks) (.mk 5 n' s' l' ks') = cmpS tk tk') := hide (by
          rw [uh HG, uh HR]
          have h := uh HS2
          simp only [decide_true] at h ⊢
          rw [h, if_pos ⟨trivial, hc0⟩])
         clear hc0 HG
         go_upto_region 13 with fail
         go_cut [59] from 42 to 85 (fun r wx => r = .bool true ∧ Hid (Below w2.heap.size w2 wx))
         case first =>
          go_quiet (fail)
          go_wp2_with fail
          go_meet
          exact ⟨rfl, hide (below_drewO (uh HX) _)⟩
         case rest =>
          obtain ⟨rfl, HXc⟩ := hcut
          have HVc := hide (uh HV wc (uh HXc))
          clear c0 c1 c2 c3 c4 d0 d1 d2 d3 d4 HVV cK cK'
          obtain ⟨r0, r1⟩ := (uh HT).later (uh HXc)
          obtain ⟨c0, c1, c2, c3, c4⟩ := row_cell r0
          obtain ⟨d0, d1, d2, d3, d4⟩ := row_cell r1
          have cK := (uh HVc).1.keys.1.cell a2 rfl i tk (uh HTK).1
          have cK' := (uh HVc).2.keys.1.cell a2' rfl i tk' (uh HTK).2
          clear r0 r1 HX
          go_wp2_with fail
          go_quiet ((go_at_call 153; exact Calls.quiet_of_same (cmp_s _ _ _)))
          go_wp2_with fail
          go_ret
          exact ⟨by rw [uh HG2]; rfl, by first | exact (uh HB).trans ((below_drewO (uh HXc) _).mono (by have := (uh HT).size; omega)) | (rw [← hg]; exact (uh HB).trans ((below_drewO (uh HXc) _).mono (by have := (uh HT).size; omega)))⟩
        | true =>
         have hc0 : cmpS tk tk' = 0 := (cmpS_zero tk tk').2 (by simpa using hbe)
         have hs := uh HS2
         rw [hc0] at hs
         simp only [decide_true, ne_eq, not_true_eq_false, and_false, if_false] at hs
         clear HS2 hc0
         have HS2 := hide hs
         clear hs
         go_upto_region 13 with fail
         go_cut [59] from 42 to 85 (fun r wx => r = .bool false ∧ Hid (Below w2.heap.size w2 wx))
         case first =>
          go_quiet (fail)
          go_wp2_with fail
          go_meet
          exact ⟨rfl, hide (below_drewO (uh HX) _)⟩
         case rest =>
          obtain ⟨rfl, HXc⟩ := hcut
          have HVc := hide (uh HV wc (uh HXc))
          clear c0 c1 c2 c3 c4 d0 d1 d2 d3 d4 HVV cK cK'
          obtain ⟨r0, r1⟩ := (uh HT).later (uh HXc)
          obtain ⟨c0, c1, c2, c3, c4⟩ := row_cell r0
          obtain ⟨d0, d1, d2, d3, d4⟩ := row_cell r1
          clear r0 r1 HX
          obtain ⟨a, y0, y1, y2, bl, bk, ll', mm, cl1, ck1, rfl, hab, hce, hve⟩ := (uh HVc).1.elem i y (uh HY).1
          obtain ⟨a', z0, z1, z2, bl', bk', zl', zm, cl2, ck2, rfl, hab', hce', hve'⟩ := (uh HVc).2.elem i y' (uh HY).2
          have e0 : wc.cell? (a.add (i * 5)) = some (.int .i64 y0) := hce 0 _ rfl
          have e1 : wc.cell? ⟨(a.add (i * 5)).block, (a.add (i * 5)).off + 1, none⟩ = some (.int .i64 y1) := hce 1 _ rfl
          have e2 : wc.cell? ⟨(a.add (i * 5)).block, (a.add (i * 5)).off + 2, none⟩ = some (.string y2) := hce 2 _ rfl
          have e3 : wc.cell? ⟨(a.add (i * 5)).block, (a.add (i * 5)).off + 3, none⟩ = some (.slice bl ll' cl1) := hce 3 _ rfl
          have e4 : wc.cell? ⟨(a.add (i * 5)).block, (a.add (i * 5)).off + 4, none⟩ = some (.slice bk mm ck1) := hce 4 _ rfl
          have f0 : wc.cell? (a'.add (i * 5)) = some (.int .i64 z0) := hce' 0 _ rfl
          have f1 : wc.cell? ⟨(a'.add (i * 5)).block, (a'.add (i * 5)).off + 1, none⟩ = some (.int .i64 z1) := hce' 1 _ rfl
          have f2 : wc.cell? ⟨(a'.add (i * 5)).block, (a'.add (i * 5)).off + 2, none⟩ = some (.string z2) := hce' 2 _ rfl
          have f3 : wc.cell? ⟨(a'.add (i * 5)).block, (a'.add (i * 5)).off + 3, none⟩ = some (.slice bl' zl' cl2) := hce' 3 _ rfl
          have f4 : wc.cell? ⟨(a'.add (i * 5)).block, (a'.add (i * 5)).off + 4, none⟩ = some (.slice bk' zm ck2) := hce' 4 _ rfl
          have hBc : B ≤ wc.heap.size := by have := (uh HXc).size; have := (uh HT).size; omega
          have hdr : Below wc.heap.size wc wc.drew := (Below.refl _ _).drew
          have CR := hide (ih y y' _ _ B wc.drew (okL_all _ _ (uh HO).1.2 y (List.mem_of_getElem? (uh HY).1)) (okL_all _ _ (uh HO).2.2 y' (List.mem_of_getElem? (uh HY).2)) (hve.mono (hdr.mono hBc)) (hve'.mono (hdr.mono hBc)) (by have := hdr.size; omega))
          obtain ⟨R, hR⟩ : ∃ R, ord y y' = R := ⟨_, rfl⟩
          rw [hR] at CR
          have HRR := hide hR
          clear hR hce hce' hve hve' hdr
          go_upto_region 15 with fail
          go_cut [9] from 42 to 85 (fun r wx => r = .int .i64 R ∧ Hid (Below w2.heap.size w2 wx))
          case first =>
           go_region_held3 (fun w' => w'.cell? ⟨g, 3, none⟩ = some (.slice (some a) m cl) ∧ w'.cell? ⟨g + 1, 3, none⟩ = some (.slice (some a') m' cl') ∧
             w'.cell? (a.add (i * 5)) = some (.int .i64 y0) ∧ w'.cell? ⟨(a.add (i * 5)).block, (a.add (i * 5)).off + 1, none⟩ = some (.int .i64 y1) ∧ w'.cell? ⟨(a.add (i * 5)).block, (a.add (i * 5)).off + 2, none⟩ = some (.string y2) ∧ w'.cell? ⟨(a.add (i * 5)).block, (a.add (i * 5)).off + 3, none⟩ = some (.slice bl ll' cl1) ∧ w'.cell? ⟨(a.add (i * 5)).block, (a.add (i * 5)).off + 4, none⟩ = some (.slice bk mm ck1) ∧
             w'.cell? (a'.add (i * 5)) = some (.int .i64 z0) ∧ w'.cell? ⟨(a'.add (i * 5)).block, (a'.add (i * 5)).off + 1, none⟩ = some (.int .i64 z1) ∧ w'.cell? ⟨(a'.add (i * 5)).block, (a'.add (i * 5)).off + 2, none⟩ = some (.string z2) ∧ w'.cell? ⟨(a'.add (i * 5)).block, (a'.add (i * 5)).off + 3, none⟩ = some (.slice bl' zl' cl2) ∧ w'.cell? ⟨(a'.add (i * 5)).block, (a'.add (i * 5)).off + 4, none⟩ = some (.slice bk' zm ck2))
            (first | go_keep | (have hb6 := below_drew_of' b5; exact ⟨cell_later hb6 c3, cell_later hb6 d3, cell_later hb6 e0, cell_later hb6 e1, cell_later hb6 e2, cell_later hb6 e3, cell_later hb6 e4, cell_later hb6 f0, cell_later hb6 f1, cell_later hb6 f2, cell_later hb6 f3, cell_later hb6 f4⟩))
            (first | (go_at_call 150; refine (uh CR).mono ?_; rintro e w5 ⟨rfl, b5⟩))
           have HX5 : Hid (Below w2.heap.size w2 w5) := hide ((uh HXc).trans ((below_drew_of' b5).mono (uh HXc).size))
           clear b5 CR
           go_wp2_with fail
           go_meet
           exact ⟨rfl, HX5⟩
          case rest =>
           obtain ⟨rfl, HX5⟩ := hcut
           clear c0 c1 c2 c3 c4 d0 d1 d2 d3 d4 e0 e1 e2 e3 e4 f0 f1 f2 f3 f4 CR HVc HXc
           by_cases hR0 : R = 0
           ·subst hR0
            have HR' : Hid (ordL (decide ((5 : Int) = 5)) l ks l' ks' = ordL (decide ((5 : Int) = 5)) (l.drop (i + 1)) (ks.drop (i + 1)) (l'.drop (i + 1)) (ks'.drop (i + 1))) := hide (by have h := uh HS2; rw [uh HR]; simp only [decide_true] at h ⊢; rw [h, uh HRR]; simp)
            have HI1 : Hid (i + 1 ≤ M) := hide (by omega)
            go_wp2_with fail
            go_roundw
            case rel => exact ⟨i + 1, uh HI1, by go_num, HX5, HR'⟩
            case measure => have := uh HI1; simp [intOf]; omega
           ·have HG2 : Hid (ord (.mk 5 n s l ks) (.mk 5 n' s' l' ks') = R) := hide (by have h := uh HS2; rw [uh HG, uh HR]; simp only [decide_true] at h ⊢; rw [h, uh HRR]; simp [hR0])
            have hb0 : (R != 0) = true := by simpa using hR0
            clear hR0
            go_wp2_with fail
            go_ret
            exact ⟨by rw [uh HG2]; rfl, by first | exact (uh HB).trans ((uh HX5).mono (by have := (uh HT).size; omega)) | (rw [← hg]; exact (uh HB).trans ((uh HX5).mono (by have := (uh HT).size; omega)))⟩
       ·have k5 : (k == (5 : Int)) = false := by simpa using h5
        have hs := uh HS
        rw [decide_eq_false h5] at hs
        simp only [Bool.false_eq_true, false_and, if_false] at hs
        have HS2 := hide hs
        clear hs HS
        go_upto_region 13 with fail
        go_cut [59] from 42 to 85 (fun r wx => r = .bool false ∧ Hid (Below w2.heap.size w2 wx))
        case first =>
         go_quiet (fail)
         go_wp2_with fail
         go_meet
         exact ⟨rfl, hide (below_drewO (uh HX) _)⟩
        case rest =>
         obtain ⟨rfl, HXc⟩ := hcut
         have HVc := hide (uh HV wc (uh HXc))
         clear c0 c1 c2 c3 c4 d0 d1 d2 d3 d4 HVV
         obtain ⟨r0, r1⟩ := (uh HT).later (uh HXc)
         obtain ⟨c0, c1, c2, c3, c4⟩ := row_cell r0
         obtain ⟨d0, d1, d2, d3, d4⟩ := row_cell r1
         clear r0 r1 HX
         obtain ⟨a, y0, y1, y2, bl, bk, ll', mm, cl1, ck1, rfl, hab, hce, hve⟩ := (uh HVc).1.elem i y (uh HY).1
         obtain ⟨a', z0, z1, z2, bl', bk', zl', zm, cl2, ck2, rfl, hab', hce', hve'⟩ := (uh HVc).2.elem i y' (uh HY).2
         have e0 : wc.cell? (a.add (i * 5)) = some (.int .i64 y0) := hce 0 _ rfl
         have e1 : wc.cell? ⟨(a.add (i * 5)).block, (a.add (i * 5)).off + 1, none⟩ = some (.int .i64 y1) := hce 1 _ rfl
         have e2 : wc.cell? ⟨(a.add (i * 5)).block, (a.add (i * 5)).off + 2, none⟩ = some (.string y2) := hce 2 _ rfl
         have e3 : wc.cell? ⟨(a.add (i * 5)).block, (a.add (i * 5)).off + 3, none⟩ = some (.slice bl ll' cl1) := hce 3 _ rfl
         have e4 : wc.cell? ⟨(a.add (i * 5)).block, (a.add (i * 5)).off + 4, none⟩ = some (.slice bk mm ck1) := hce 4 _ rfl
         have f0 : wc.cell? (a'.add (i * 5)) = some (.int .i64 z0) := hce' 0 _ rfl
         have f1 : wc.cell? ⟨(a'.add (i * 5)).block, (a'.add (i * 5)).off + 1, none⟩ = some (.int .i64 z1) := hce' 1 _ rfl
         have f2 : wc.cell? ⟨(a'.add (i * 5)).block, (a'.add (i * 5)).off + 2, none⟩ = some (.string z2) := hce' 2 _ rfl
         have f3 : wc.cell? ⟨(a'.add (i * 5)).block, (a'.add (i * 5)).off + 3, none⟩ = some (.slice bl' zl' cl2) := hce' 3 _ rfl
         have f4 : wc.cell? ⟨(a'.add (i * 5)).block, (a'.add (i * 5)).off + 4, none⟩ = some (.slice bk' zm ck2) := hce' 4 _ rfl
         have hBc : B ≤ wc.heap.size := by have := (uh HXc).size; have := (uh HT).size; omega
         have hdr : Below wc.heap.size wc wc.drew := (Below.refl _ _).drew
         have CR := hide (ih y y' _ _ B wc.drew (okL_all _ _ (uh HO).1.2 y (List.mem_of_getElem? (uh HY).1)) (okL_all _ _ (uh HO).2.2 y' (List.mem_of_getElem? (uh HY).2)) (hve.mono (hdr.mono hBc)) (hve'.mono (hdr.mono hBc)) (by have := hdr.size; omega))
         obtain ⟨R, hR⟩ : ∃ R, ord y y' = R := ⟨_, rfl⟩
         rw [hR] at CR
         have HRR := hide hR
         clear hR hce hce' hve hve' hdr
         go_upto_region 15 with fail
         go_cut [9] from 42 to 85 (fun r wx => r = .int .i64 R ∧ Hid (Below w2.heap.size w2 wx))
         case first =>
          go_region_held3 (fun w' => w'.cell? ⟨g, 3, none⟩ = some (.slice (some a) ln cl) ∧ w'.cell? ⟨g + 1, 3, none⟩ = some (.slice (some a') ln' cl') ∧
            w'.cell? (a.add (i * 5)) = some (.int .i64 y0) ∧ w'.cell? ⟨(a.add (i * 5)).block, (a.add (i * 5)).off + 1, none⟩ = some (.int .i64 y1) ∧ w'.cell? ⟨(a.add (i * 5)).block, (a.add (i * 5)).off + 2, none⟩ = some (.string y2) ∧ w'.cell? ⟨(a.add (i * 5)).block, (a.add (i * 5)).off + 3, none⟩ = some (.slice bl ll' cl1) ∧ w'.cell? ⟨(a.add (i * 5)).block, (a.add (i * 5)).off + 4, none⟩ = some (.slice bk mm ck1) ∧
            w'.cell? (a'.add (i * 5)) = some (.int .i64 z0) ∧ w'.cell? ⟨(a'.add (i * 5)).block, (a'.add (i * 5)).off + 1, none⟩ = some (.int .i64 z1) ∧ w'.cell? ⟨(a'.add (i * 5)).block, (a'.add (i * 5)).off + 2, none⟩ = some (.string z2) ∧ w'.cell? ⟨(a'.add (i * 5)).block, (a'.add (i * 5)).off + 3, none⟩ = some (.slice bl' zl' cl2) ∧ w'.cell? ⟨(a'.add (i * 5)).block, (a'.add (i * 5)).off + 4, none⟩ = some (.slice bk' zm ck2))
           (first | go_keep | (have hb6 := below_drew_of' b5; exact ⟨cell_later hb6 c3, cell_later hb6 d3, cell_later hb6 e0, cell_later hb6 e1, cell_later hb6 e2, cell_later hb6 e3, cell_later hb6 e4, cell_later hb6 f0, cell_later hb6 f1, cell_later hb6 f2, cell_later hb6 f3, cell_later hb6 f4⟩))
           (first | (go_at_call 150; refine (uh CR).mono ?_; rintro e w5 ⟨rfl, b5⟩))
          have HX5 : Hid (Below w2.heap.size w2 w5) := hide ((uh HXc).trans ((below_drew_of' b5).mono (uh HXc).size))
          clear b5 CR
          go_wp2_with fail
          go_meet
          exact ⟨rfl, HX5⟩
         case rest =>
          obtain ⟨rfl, HX5⟩ := hcut
          clear c0 c1 c2 c3 c4 d0 d1 d2 d3 d4 e0 e1 e2 e3 e4 f0 f1 f2 f3 f4 CR HVc HXc
          by_cases hR0 : R = 0
          ·subst hR0
           have HR' : Hid (ordL (decide (k = 5)) l ks l' ks' = ordL (decide (k = 5)) (l.drop (i + 1)) (ks.drop (i + 1)) (l'.drop (i + 1)) (ks'.drop (i + 1))) := hide (by have h := uh HS2; rw [uh HR]; rw [decide_eq_false h5]; rw [h, uh HRR]; simp)
           have HI1 : Hid (i + 1 ≤ M) := hide (by omega)
           go_wp2_with fail
           go_roundw
           case rel => exact ⟨i + 1, uh HI1, by go_num, HX5, HR'⟩
           case measure => have := uh HI1; simp [intOf]; omega
          ·have HG2 : Hid (ord (.mk k n s l ks) (.mk k n' s' l' ks') = R) := hide (by have h := uh HS2; rw [uh HG, uh HR]; rw [decide_eq_false h5]; rw [h, uh HRR]; simp [hR0])
           have hb0 : (R != 0) = true := by simpa using hR0
           clear hR0
           go_wp2_with fail
           go_ret
           exact ⟨by rw [uh HG2]; rfl, by first | exact (uh HB).trans ((uh HX5).mono (by have := (uh HT).size; omega)) | (rw [← hg]; exact (uh HB).trans ((uh HX5).mono (by have := (uh HT).size; omega)))⟩
      ·have hiM : i = M := by omega
       subst hiM
       have HG2 : Hid (ord (.mk k n s l ks) (.mk k n' s' l' ks') = cmpI (ln : Int) (ln' : Int)) := hide (by
        have e1 := (uh HL).2.1
        have e2 := (uh HL).2.2.2
        rw [uh HG, uh HR, ordL_end _ l l' ks ks' i (by rw [e1, e2]; exact (uh HM).symm), e1, e2])
       have C1 := hide (cmp_i (ln : Int) (ln' : Int) wr)
       have i1 : ¬ (i : Int) < (i : Int) := by omega
       go_wp2_with fail
       refine (uh C1).mono ?_
       rintro e w7 ⟨rfl, rfl⟩
       clear C1
       go_wp2_with fail
       go_ret
       exact ⟨by rw [uh HG2]; rfl, by first | exact (uh HB).trans ((uh HX).mono (by have := (uh HT).size; omega)) | (rw [← hg]; exact (uh HB).trans ((uh HX).mono (by have := (uh HT).size; omega)))⟩
   ·have HG : Hid (ord (.mk k n s l ks) (.mk k n' s' l' ks') = cmpS s s') := hide (by
     simp only [ord, h1, h2]; simp [h3])
    have C1 := CI k k
    have C2 := CJ n n'
    have C3 := CS s s'
    rw [h1] at C1
    rw [h2] at C2
    obtain ⟨R, hR⟩ : ∃ R, cmpS s s' = R := ⟨_, rfl⟩
    rw [hR] at C3 HG h3
    have hb0 : (R != 0) = true := by simpa using h3
    clear h1 h2 h3 hR CI CJ CS
    go_enter Tryz.func150, Tryz.ntmps150
    go_wp2_with fail
    refine (uh C1).mono ?_
    rintro e w2 ⟨rfl, rfl⟩
    go_wp2_with fail
    refine (uh C2).mono ?_
    rintro e w2 ⟨rfl, rfl⟩
    go_wp2_with fail
    refine (uh C3).mono ?_
    rintro e w2 ⟨rfl, rfl⟩
    clear C1 C2 C3
    go_wp2_with fail
    go_ret
    exact ⟨by rw [uh HG]; rfl, uh HB⟩
  ·have HG : Hid (ord (.mk k n s l ks) (.mk k n' s' l' ks') = cmpI n n') := hide (by
    simp only [ord, h1]; simp [h2])
   have C1 := CI k k
   have C2 := CJ n n'
   rw [h1] at C1
   obtain ⟨R, hR⟩ : ∃ R, cmpI n n' = R := ⟨_, rfl⟩
   rw [hR] at C2 HG h2
   have hb0 : (R != 0) = true := by simpa using h2
   clear h1 h2 hR CI CJ CS
   go_enter Tryz.func150, Tryz.ntmps150
   go_wp2_with fail
   refine (uh C1).mono ?_
   rintro e w2 ⟨rfl, rfl⟩
   go_wp2_with fail
   refine (uh C2).mono ?_
   rintro e w2 ⟨rfl, rfl⟩
   clear C1 C2
   go_wp2_with fail
   go_ret
   exact ⟨by rw [uh HG]; rfl, uh HB⟩
 ·have HG : Hid (ord (.mk k n s l ks) (.mk k' n' s' l' ks') = cmpI k k') := hide (by
   simp only [ord]; simp [h1])
  have C1 := CI k k'
  obtain ⟨R, hR⟩ : ∃ R, cmpI k k' = R := ⟨_, rfl⟩
  rw [hR] at C1 HG h1
  have hb0 : (R != 0) = true := by simpa using h1
  clear h1 hR CI CJ CS
  go_enter Tryz.func150, Tryz.ntmps150
  go_wp2_with fail
  refine (uh C1).mono ?_
  rintro e w2 ⟨rfl, rfl⟩
  clear C1
  go_wp2_with fail
  go_ret
  exact ⟨by rw [uh HG]; rfl, uh HB⟩
theorem order_any : ∀ b, OrderAt b
 | 0 => order_zero
 | b + 1 => order_step b (order_any b)
end Go.Proofs.YtgkmdjmigehmeaaGreatDoor
