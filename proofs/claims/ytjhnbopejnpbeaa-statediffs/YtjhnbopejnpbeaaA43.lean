/-
  The walk of state.Diff: what leads from some entries to others; conditions: the form's own reach.
-/
import Derived.Test.YtjhnbopejnpbeaaA37
set_option linter.unusedVariables false
set_option linter.unusedSimpArgs false
namespace Go.Proofs.Ytjhnbopejnpbeaa
open Go.RowKit Go.Shelf
set_option linter.unusedVariables false
set_option linter.unusedSimpArgs false

set_option maxRecDepth 100000 in
set_option maxHeartbeats 8000000 in
attribute [local go_sem] Oper.semAt_some in
theorem diffE_right (es fs : List En) (al bl : Option Addr) (n cl m ck B : Nat) (w : World) (hn : es.length = n) (hm : fs.length = m) (h : IsE w (fun b => b < B) es al cl) (h' : IsE w (fun b => b < B) fs bl ck) (hB : B ≤ w.heap.size) (hR : rightE es = true) (hR' : rightE fs = true) :
    Calls Try.prog 8 #[.slice al n cl, .slice bl m ck] w fun e w' => ∃ sv cs, e = .returned (.tuple #[sv, .int .i64 0]) ∧ ChO w' w.heap.size sv cs ∧ cs.map chOf = (sdN (keysE es) (keysE fs) (n + m) 0 0).flatMap (chI es fs) ∧ Below w.heap.size w w' := by
  have hn128 := (right_len hR).1
  have hm128 := (right_len hR').1
  rw [hn] at hn128
  rw [hm] at hm128
  have CR : Hid (∀ u, Below w.heap.size w u → Calls Try.prog 20 #[.slice al n cl] u fun e w' => e = .returned (.bool true) ∧ Below u.heap.size u w') := hide (fun u hu => by
    have := rightE_any es al n cl B u hn (h.later (hu.mono hB)) (Nat.le_trans hB hu.size)
    rw [hR] at this
    exact this)
  have CR' : Hid (∀ u, Below w.heap.size w u → Calls Try.prog 20 #[.slice bl m ck] u fun e w' => e = .returned (.bool true) ∧ Below u.heap.size u w') := hide (fun u hu => by
    have := rightE_any fs bl m ck B u hm (h'.later (hu.mono hB)) (Nat.le_trans hB hu.size)
    rw [hR'] at this
    exact this)
  obtain ⟨CA, hCA, hVA⟩ := h.rwE hB
  obtain ⟨CB, hCB, hVB⟩ := h'.rwE hB
  have HEA : Hid (∀ W, Below w.heap.size w W → ∀ i e, es[i]? = some e → (CA i).1 = e.1 ∧ IsV W B e.2 (.agg (ceL (CA i)).tail.toArray) ∧ entB e = true) := hide (fun W hW i e he => ⟨(hVA i e he).1, IsV.mono (hW.mono hB) (hVA i e he).2, (right_len hR).2 e (List.mem_of_getElem? he)⟩)
  have HEB : Hid (∀ W, Below w.heap.size w W → ∀ i e, fs[i]? = some e → (CB i).1 = e.1 ∧ IsV W B e.2 (.agg (ceL (CB i)).tail.toArray) ∧ entB e = true) := hide (fun W hW i e he => ⟨(hVB i e he).1, IsV.mono (hW.mono hB) (hVB i e he).2, (right_len hR').2 e (List.mem_of_getElem? he)⟩)
  have HRW := hide (And.intro hCA hCB)
  have HN := hide (And.intro hn hm)
  have HB := hide hB
  obtain ⟨its, hits⟩ : ∃ its, sdN (keysE es) (keysE fs) (n + m) 0 0 = its := ⟨_, rfl⟩
  have HIT := hide hits
  rw [hits]
  clear h h' hR hR' hCA hCB hVA hVB hn hm hB hits
  refine (callsIn_wide (n := 5)).1 ?_
  refine callsIn_of_wp_marks Try.func8 rfl trivial ?_ rfl
  simp only [Try.ntmps8, List.size_toArray, List.length_cons, List.length_nil, Nat.reduceAdd, Nat.reduceSub, Array.replicate_succ, Array.replicate_zero, List.push_toArray, List.append_toArray, List.nil_append, List.cons_append]
  refine wpIn_wide.2 ?_
  have C1 := hide (unhide CR w (Below.refl _ _))
  go_wp2_with fail
  refine (unhide C1).mono ?_
  rintro e u1 ⟨rfl, b1⟩
  have B1 := hide b1
  have C2 := hide (unhide CR' u1 b1)
  clear b1 C1
  go_wp2_with fail
  refine (unhide C2).mono ?_
  rintro e u2 ⟨rfl, b2⟩
  have B2 : Hid (Below w.heap.size w u2) := hide ((unhide B1).trans (b2.mono (unhide B1).size))
  clear b2 C2 CR CR' B1
  obtain ⟨w1, hw1⟩ : ∃ w1, u2.alloc (.cells #[.slice none 0 0] 25) = w1 := ⟨_, rfl⟩
  obtain ⟨go, hgo⟩ : ∃ go, u2.heap.size = go := ⟨_, rfl⟩
  have N1 : w1.heap[go]? = some (.cells #[.slice none 0 0] 25 (0, 0)) := by rw [← hw1, ← hgo]; exact heap_alloc_new u2 _
  have X1 : Below u2.heap.size u2 w1 := by rw [← hw1]; exact (Below.refl _ _).alloc (Nat.le_refl _) _
  have hgl : go < w1.heap.size := (Array.getElem?_eq_some_iff.1 N1).1
  have HB1 : Hid (Below w.heap.size w w1 ∧ w1.heap[go]? = some (.cells #[.slice none 0 0] 25 (0, 0)) ∧ w.heap.size ≤ go ∧ go < w1.heap.size) := hide ⟨(unhide B2).trans (X1.mono (unhide B2).size), N1, by have := (unhide B2).size; omega, hgl⟩
  have CS := hide (sidesE_call al bl n cl m ck w1)
  clear N1 X1 hgl B2
  go_wp2_with fail
  refine (unhide CS).mono ?_
  rintro e w7 ⟨p1, p2, p3, p4, rfl, hS, hp, b7⟩
  have H7 : Hid (Below w.heap.size w w7 ∧ w7.heap[go]? = some (.cells #[.slice none 0 0] 25 (0, 0)) ∧ SidesE w7 al n cl bl m ck p1 p2 p3 p4 ∧ (go < p1 ∧ go < p2 ∧ go < p3 ∧ go < p4)) := hide (by
    obtain ⟨f1, f2, f3, f4⟩ := unhide HB1
    exact ⟨f1.trans (b7.mono f1.size), (b7.block go f4).trans f2, hS, by omega⟩)
  have HGW : Hid (w.heap.size ≤ go) := hide (unhide HB1).2.2.1
  have HG7 : Hid (go < w7.heap.size) := hide (Array.getElem?_eq_some_iff.1 (unhide H7).2.1).1
  clear hS hp b7 CS HB1 hw1 hgo
  let en : { x // x ∈ its } → Option Ce × Option Ce := fun x => (x.1.1.map CA, x.1.2.map CB)
  have HSQ := hide (sides_stopsE en (5 - 1) (by decide) its.attach p1 p2 p3 p4 n cl m ck al bl (keysE es) (keysE fs) CA CB (fun b => b < w7.heap.size ∧ b ≠ go) (fun T => T = 55) rfl w7 (unhide H7).2.2.1 (by
      obtain ⟨l1, l2, l3, l4⟩ := (unhide H7).2.2.1.lt
      obtain ⟨g1, g2, g3, g4⟩ := (unhide H7).2.2.2
      exact ⟨⟨l1, by omega⟩, ⟨l2, by omega⟩, ⟨l3, by omega⟩, ⟨l4, by omega⟩⟩) (fun b hb => hb.1) (by have := unhide HN; simp [keysE]; omega) (by have := unhide HN; simp [keysE]; omega) (by omega) (by omega)
      (((unhide HRW).1.to (fun b hb => (unhide H7).1.block b (Nat.lt_of_lt_of_le hb (unhide HB)))).weak (fun b hb => by have h1 := (unhide H7).1.size; have h2 := unhide HB; have h3 := unhide HGW; exact ⟨by omega, by omega⟩))
      (((unhide HRW).2.to (fun b hb => (unhide H7).1.block b (Nat.lt_of_lt_of_le hb (unhide HB)))).weak (fun b hb => by have h1 := (unhide H7).1.size; have h2 := unhide HB; have h3 := unhide HGW; exact ⟨by omega, by omega⟩))
      (by rw [unhide HIT]; exact its_attach its CA CB))
  go_wp2_with fail
  refine (wpIn_wide (n := 5)).1 ?_
  refine wpIn_rangeFunc_ownH rfl (by decide) (gf := 44) (lb := #[.pointer (some ⟨p1, 0, none⟩), .pointer (some ⟨p2, 0, none⟩), .pointer (some ⟨p3, 0, none⟩), .pointer (some ⟨p4, 0, none⟩)]) rfl trivial (enters_of Try.func44 (by kernel_rfl) rfl)
    (unhide HSQ) (fun h1 h2 => h1.trans h2) (fun W j o o' hj ho hc _ => ⟨fun b hb => World.putObj_heap_other (by have := hb.1; omega), fun b c T f _ hb => (World.putObj_heap_other (fun e => by subst e; rw [hb] at ho; cases ho; cases hc)).trans hb⟩) (Below.refl _ _) (fun _ => rfl)
    (fun pre W => DfI w w7 W go es fs (pre.map Subtype.val)) (fun _ _ _ => False) ?hI (fun _ _ _ _ _ hs _ _ => hs) ?h0
    (fun x a' W => ∃ b7 b8, a' = { tmps := #[.slice al n cl, .slice bl m ck, undef, undef, .slice none 0 0, .int .i64 0, .pointer (some ⟨go, 0, none⟩), .pointer (some ⟨b7, 0, none⟩), .pointer (some ⟨b8, 0, none⟩), .slice al n cl, .bool true, .bool false, .bool false, .slice bl m ck, .bool true, .bool false, .bool false, .slice al n cl, .slice bl m ck, .func (.func 44) #[] #[.pointer (some ⟨p1, 0, none⟩), .pointer (some ⟨p2, 0, none⟩), .pointer (some ⟨p3, 0, none⟩), .pointer (some ⟨p4, 0, none⟩)], .agg (sdE (x.1.1.map CA)).toArray, .agg (sdE (x.1.2.map CB)).toArray, undef, undef, undef, undef, undef, undef, undef, undef, undef, undef, undef, undef, undef, undef, undef, undef, undef, undef, undef, undef, undef, undef, undef, undef, undef, undef, undef, undef, undef, undef, undef, undef, undef, undef, undef, undef, undef], defers := [] } ∧ W.heap[b7]? = some (.cells (sdE (x.1.1.map CA)).toArray 55 (0, 0)) ∧ W.heap[b8]? = some (.cells (sdE (x.1.2.map CB)).toArray 55 (0, 0))) ?hAx ?assign ?body ?done ?stop
  case hI => exact fun pre W W' row hs hg hr => hs.grown (unhide H7).1.size hg hr
  case h0 => exact ⟨⟨_, [], (unhide H7).2.1, ChO.nil _ _, rfl, Nat.le_refl _⟩, (unhide H7).1, Nat.le_refl _⟩
  case hAx =>
    rintro x a' _ W W' row ⟨b7, b8, h1, h2, h3⟩ hg hr
    have hne : ∀ b c T f, W.heap[b]? = some (.cells c T f) → some b ≠ row := fun b c T f hb e => by
      obtain ⟨_, o, ho, hc⟩ := hr b e.symm
      rw [hb] at ho
      cases ho
      cases hc
    exact ⟨b7, b8, h1, (hg.block b7 (Array.getElem?_eq_some_iff.1 h2).1 (hne _ _ _ _ h2)).trans h2, (hg.block b8 (Array.getElem?_eq_some_iff.1 h3).1 (hne _ _ _ _ h3)).trans h3⟩
  case assign =>
    rintro j pre x W K hD hK
    obtain ⟨xk, xt0, xt1, xt2, xt3, xt4, xt5, xt6, xt7, xt8, xg, hxf, hxg⟩ := sdE_form (x.1.1.map CA)
    obtain ⟨yk, yt0, yt1, yt2, yt3, yt4, yt5, yt6, yt7, yt8, yg, hyf, hyg⟩ := sdE_form (x.1.2.map CB)
    obtain ⟨b7, hb7⟩ : ∃ b7, W.heap.size = b7 := ⟨_, rfl⟩
    obtain ⟨Wa, hWa⟩ : ∃ Wa, W.alloc (.cells #[.string xk, .int .i64 xt0, .int .i64 xt1, .string xt2, .slice xt3 xt4 xt5, .slice xt6 xt7 xt8, .bool xg] 55) = Wa := ⟨_, rfl⟩
    obtain ⟨b8, hb8⟩ : ∃ b8, Wa.heap.size = b8 := ⟨_, rfl⟩
    obtain ⟨Wb, hWb⟩ : ∃ Wb, Wa.alloc (.cells #[.string yk, .int .i64 yt0, .int .i64 yt1, .string yt2, .slice yt3 yt4 yt5, .slice yt6 yt7 yt8, .bool yg] 55) = Wb := ⟨_, rfl⟩
    have n1 : Wa.heap[b7]? = some (.cells #[.string xk, .int .i64 xt0, .int .i64 xt1, .string xt2, .slice xt3 xt4 xt5, .slice xt6 xt7 xt8, .bool xg] 55 (0, 0)) := by rw [← hWa, ← hb7]; exact heap_alloc_new W _
    have x1 : Below W.heap.size W Wa := by rw [← hWa]; exact (Below.refl _ _).alloc (Nat.le_refl _) _
    have n2 : Wb.heap[b8]? = some (.cells #[.string yk, .int .i64 yt0, .int .i64 yt1, .string yt2, .slice yt3 yt4 yt5, .slice yt6 yt7 yt8, .bool yg] 55 (0, 0)) := by rw [← hWb, ← hb8]; exact heap_alloc_new Wa _
    have x2 : Below Wa.heap.size Wa Wb := by rw [← hWb]; exact (Below.refl _ _).alloc (Nat.le_refl _) _
    have xx : Below W.heap.size W Wb := x1.trans (x2.mono x1.size)
    have ko : KeepsFrom w7.heap.size W Wb := by rw [← hWb, ← hWa]; exact ((KeepsOthers.alloc _ _).trans (KeepsOthers.alloc _ _)).from _
    have HKK : Hid (∀ a', a' = { tmps := #[.slice al n cl, .slice bl m ck, undef, undef, .slice none 0 0, .int .i64 0, .pointer (some ⟨go, 0, none⟩), .pointer (some ⟨b7, 0, none⟩), .pointer (some ⟨b8, 0, none⟩), .slice al n cl, .bool true, .bool false, .bool false, .slice bl m ck, .bool true, .bool false, .bool false, .slice al n cl, .slice bl m ck, .func (.func 44) #[] #[.pointer (some ⟨p1, 0, none⟩), .pointer (some ⟨p2, 0, none⟩), .pointer (some ⟨p3, 0, none⟩), .pointer (some ⟨p4, 0, none⟩)], .agg #[.string xk, .int .i64 xt0, .int .i64 xt1, .string xt2, .slice xt3 xt4 xt5, .slice xt6 xt7 xt8, .bool xg], .agg #[.string yk, .int .i64 yt0, .int .i64 yt1, .string yt2, .slice yt3 yt4 yt5, .slice yt6 yt7 yt8, .bool yg], undef, undef, undef, undef, undef, undef, undef, undef, undef, undef, undef, undef, undef, undef, undef, undef, undef, undef, undef, undef, undef, undef, undef, undef, undef, undef, undef, undef, undef, undef, undef, undef, undef, undef, undef, undef, undef], defers := [] } → K a' Wb) := hide (fun a' ha => hK a' _ ko (KeepS.of_below xx (fun b hb => by have := hb.1; have := hD.size; omega)) (hD.later xx) ⟨b7, b8, by rw [ha, hxf, hyf], by rw [hxf]; exact (x2.block b7 (Array.getElem?_eq_some_iff.1 n1).1).trans n1, by rw [hyf]; exact n2⟩)
    clear n1 n2 x1 x2 xx ko hD hK hxg hyg
    dsimp only [en]
    rw [hxf, hyf]
    clear hxf hyf
    gi_wp2
    exact unhide HKK _ rfl
  case body =>
    rintro j pre ⟨⟨oa, ob⟩, hx⟩ a' W hj ⟨rr, hrr⟩ hD ⟨b7, b8, rfl, hb7, hb8⟩ hlt
    have HLT : Hid (pre.length < 1000) := hide (by have h1 := sdN_len (keysE es) (keysE fs) (n + m) 0 0; rw [unhide HIT] at h1; rw [List.length_attach] at hlt; omega)
    have hmem := sdN_mem (keysE es) (keysE fs) (n + m) 0 0 (oa, ob) (by rw [unhide HIT]; exact hx)
    have hnone := sdN_none (keysE es) (keysE fs) (n + m) 0 0 (oa, ob) (by rw [unhide HIT]; exact hx)
    have hDb := hD.below
    dsimp only at hmem hnone hb7 hb8 ⊢
    have HD := hide hD
    clear hlt hD hrr
    cases oa with
    | none =>
      cases ob with
      | none => exact absurd ⟨rfl, rfl⟩ hnone
      | some jj =>
        obtain ⟨⟨yk', yv⟩, hey⟩ : ∃ e, fs[jj]? = some e := ⟨_, List.getElem?_eq_getElem (by have := unhide HN; have := hmem.2 jj rfl; simp only [keysE, List.length_map] at this; omega)⟩
        obtain ⟨hky, hv2, henty⟩ := unhide HEB W hDb jj _ hey
        obtain ⟨yk, yt0, yt1, yt2, yt3, yt4, yt5, yt6, yt7, yt8, hepy⟩ : ∃ yk yt0 yt1 yt2 yt3 yt4 yt5 yt6 yt7 yt8, CB jj = (yk, yt0, yt1, yt2, yt3, yt4, yt5, yt6, yt7, yt8) := ⟨_, _, _, _, _, _, _, _, _, _, rfl⟩
        rw [hepy] at hky hv2
        obtain rfl : yk = yk' := hky
        dsimp only [ceL, List.tail_cons] at hv2
        have hrty : 1 ≤ yk.size ∧ yk.size ≤ 32 ∧ rightB yv = true := by unfold entB at henty; simp only [Bool.and_eq_true, decide_eq_true_eq] at henty; exact ⟨henty.1.1, henty.1.2, henty.2⟩
        have hrt2 := hrty.2.2
        have hsz : yk.size ≤ 32 := hrty.2.1
        simp only [Option.map_some, Option.map_none, hepy, sdE] at hb7 hb8 ⊢
        obtain ⟨_, _, _, _, _, _, z76⟩ := row_cell7 hb7
        obtain ⟨_, _, _, _, _, _, z86⟩ := row_cell7 hb8
        have HCH : Hid (chI es fs (none, some jj) = [(yk, false, yv)]) := hide (by simp [chI, hey])
        have HCl : Hid (∀ u, Calls Try.prog 23 #[.string yk] u fun e w' => e = .returned (.string yk) ∧ Below u.heap.size u w') := hide (fun u => str_clone yk u (by omega))
        have HCo : Hid (∀ u, Below W.heap.size W u → Calls Try.prog 25 #[.agg #[.int .i64 yt0, .int .i64 yt1, .string yt2, .slice yt3 yt4 yt5, .slice yt6 yt7 yt8]] u fun e w' => ∃ d : Th5, e = .returned (.agg (th5 d).toArray) ∧ Below u.heap.size u w' ∧ IsQ w' (fun b => u.heap.size ≤ b ∧ b < w'.heap.size) yv (.agg (th5 d).toArray)) := hide (fun u hu => by
          refine (copy_any yv _ B u (IsV.mono (hu.mono (Nat.le_trans (unhide HB) (Nat.le_trans hDb.size (Nat.le_refl _)))) hv2) (Nat.le_trans (unhide HB) (Nat.le_trans hDb.size hu.size))).mono ?_
          rintro e w' ⟨x', rfl, b, q, -⟩
          have hq := q hrt2
          obtain ⟨d, rfl⟩ := isP_th5 hq.1
          exact ⟨d, rfl, b, hq⟩)
        obtain ⟨⟨sv, cs, h1, h2, h3, h4⟩, h5, h6⟩ := unhide HD
        obtain ⟨q, hq⟩ : ∃ q, cs.length = q := ⟨_, rfl⟩
        obtain ⟨so, sc, hsv⟩ : ∃ so sc, sv = .slice so q sc := by
          have := h2.row
          rw [hq] at this
          rcases this.2 with ⟨e, e2⟩ | ⟨b, cap, cur, e, _⟩
          · exact ⟨none, 0, by rw [e, e2]⟩
          · exact ⟨_, _, e⟩
        subst hsv
        have hqb : q < 1000 := by have := unhide HLT; rw [List.length_map] at h4; omega
        have hgol : go < W.heap.size := (Array.getElem?_eq_some_iff.1 h1).1
        have hbul : b8 < W.heap.size := (Array.getElem?_eq_some_iff.1 hb8).1
        have hgw : go < w7.heap.size := (Array.getElem?_eq_some_iff.1 (unhide H7).2.1).1
        have hgn : some go ≠ (Value.slice so q sc).ownBlock := fun e => by have := (h2.row.lt go e.symm).1; omega
        have hbn : some b8 ≠ (Value.slice so q sc).ownBlock := fun e => ty_ne ⟨_, hb8⟩ (row_ty h2.row e.symm) (by decide) rfl
        have HGO : Hid (go < W.heap.size ∧ some go ≠ (Value.slice so q sc).ownBlock ∧ b8 < W.heap.size ∧ some b8 ≠ (Value.slice so q sc).ownBlock ∧ ∀ u, Below W.heap.size W u → u.frozen? ⟨go, 0, none⟩ = false) := hide ⟨hgol, hgn, hbul, hbn, fun u hu => frozen_of_row u go 0 _ _ ((hu.block go hgol).trans h1)⟩
        obtain ⟨CS, hCS⟩ : ∃ CS, cellsC cs = CS := ⟨_, rfl⟩
        obtain ⟨lo, hlo⟩ : ∃ lo, w7.heap.size = lo := ⟨_, rfl⟩
        have HOW : Hid (∀ u, Below W.heap.size W u → u.ownsRow lo 36 7 (.slice so q sc) q CS) := hide (fun u hu => by
          have := (h2.later hu).row
          rw [hq, hCS, hlo] at this
          exact this)
        have hloW : lo ≤ W.heap.size := by omega
        obtain ⟨iv, hiv, hz0, hz1, hz2⟩ := info_parts infoCh
        have HI := hide (And.intro hiv (And.intro hz0 (And.intro hz1 hz2)))
        have HS0 : Hid (W.drew.cell? ⟨go, 0, none⟩ = some (.slice so q sc) ∧ W.drew.cell? ⟨b8, 0, none⟩ = some (.string yk) ∧ W.drew.cell? ⟨b8, 1, none⟩ = some (.int .i64 yt0) ∧ W.drew.cell? ⟨b8, 2, none⟩ = some (.int .i64 yt1) ∧ W.drew.cell? ⟨b8, 3, none⟩ = some (.string yt2) ∧ W.drew.cell? ⟨b8, 4, none⟩ = some (.slice yt3 yt4 yt5) ∧ W.drew.cell? ⟨b8, 5, none⟩ = some (.slice yt6 yt7 yt8)) := hide ⟨by rw [cell_of_row _ go 0 _ _ (0, 0) (show W.drew.heap[go]? = _ from h1)]; rfl, by rw [cell_of_row _ b8 0 _ _ (0, 0) (show W.drew.heap[b8]? = _ from hb8)]; rfl, by rw [cell_of_row _ b8 1 _ _ (0, 0) (show W.drew.heap[b8]? = _ from hb8)]; rfl, by rw [cell_of_row _ b8 2 _ _ (0, 0) (show W.drew.heap[b8]? = _ from hb8)]; rfl, by rw [cell_of_row _ b8 3 _ _ (0, 0) (show W.drew.heap[b8]? = _ from hb8)]; rfl, by rw [cell_of_row _ b8 4 _ _ (0, 0) (show W.drew.heap[b8]? = _ from hb8)]; rfl, by rw [cell_of_row _ b8 5 _ _ (0, 0) (show W.drew.heap[b8]? = _ from hb8)]; rfl⟩
        have HEND : Hid (∀ (W4 W5 : World) (g5 cap5 : Nat) (c : Th5) , Below W.heap.size W W4 → IsQ W4 (fun b => W.heap.size ≤ b ∧ b < W4.heap.size) yv (.agg (th5 c).toArray) → W5.ownsRow lo 36 7 (.slice (some ⟨g5, 0, none⟩) (q + 1) cap5) (q + 1) (CS ++ (.string yk :: .bool false :: th5 c)) → W4.grownBy W5 (Value.slice so q sc).ownBlock → ((Value.slice so q sc).ownBlock = some g5 ∨ g5 = W4.heap.size) → KeepsFrom w7.heap.size W (W5.setCell ⟨go, 0, none⟩ (.slice (some ⟨g5, 0, none⟩) (q + 1) cap5)) ∧ KeepS (fun b => b < w7.heap.size ∧ b ≠ go) (fun T => T = 55) W (W5.setCell ⟨go, 0, none⟩ (.slice (some ⟨g5, 0, none⟩) (q + 1) cap5)) ∧ DfI w w7 (W5.setCell ⟨go, 0, none⟩ (.slice (some ⟨g5, 0, none⟩) (q + 1) cap5)) go es fs ((pre ++ [(⟨(none, some jj), hx⟩ : { x // x ∈ its })]).map Subtype.val)) := hide (by
          intro W4 W5 g5 cap5 c b4 q4 o5 g5' a5
          rw [← hlo, ← hCS] at o5
          rw [List.map_append, List.map_singleton]
          exact DfI.push h1 h2 h3 h4 h5 h6 hq (unhide HGW) hgw (unhide HCH) b4 q4 o5 g5' a5)
        clear h1 h2 h3 h4 h5 h6 hgol hbul hgw hgn hbn hiv hz0 hz1 hz2 hb7 hb8 hq hCS hlo
        clear hmem hnone hDb hey hv2 henty hepy hrty hrt2 hj
        gi_wp2_with fail
        refine ⟨trivial, ?_⟩
        gi_wp2_with fail
        refine till_in (S := fun w' => w'.cell? ⟨go, 0, none⟩ = some (.slice so q sc) ∧ w'.cell? ⟨b8, 0, none⟩ = some (.string yk) ∧ w'.cell? ⟨b8, 1, none⟩ = some (.int .i64 yt0) ∧ w'.cell? ⟨b8, 2, none⟩ = some (.int .i64 yt1) ∧ w'.cell? ⟨b8, 3, none⟩ = some (.string yt2) ∧ w'.cell? ⟨b8, 4, none⟩ = some (.slice yt3 yt4 yt5) ∧ w'.cell? ⟨b8, 5, none⟩ = some (.slice yt6 yt7 yt8)) 12 (by kernel_rfl) ?nd1 ?nq1 ?_
        case nd1 =>
          intro i o ho c
          have : i < 13 := by
            have := (Array.getElem?_eq_some_iff.1 ho).1
            exact this
          rcases (show i = 0 ∨ i = 1 ∨ i = 2 ∨ i = 3 ∨ i = 4 ∨ i = 5 ∨ i = 6 ∨ i = 7 ∨ i = 8 ∨ i = 9 ∨ i = 10 ∨ i = 11 ∨ i = 12 by omega) with rfl | rfl | rfl | rfl | rfl | rfl | rfl | rfl | rfl | rfl | rfl | rfl | rfl <;> (cases ho; intro e; cases e)
        case nq1 =>
          rintro ⟨a, w, h⟩
          exact h
        refine till_take 0 (v := .slice so q sc) (some 46) rfl rfl rfl (by kernel_rfl) (by kernel_rfl) (by kernel_rfl) (by kernel_rfl) (fun _ _ _ h => h) (Or.inl ⟨by rfl, fun u hu => by obtain ⟨b0, b1, b2, b3, b4, b5, b6⟩ := hu; go_simp⟩) (unhide HS0) ?_
        try simp only [Act.put, List.setIfInBounds_toArray, List.set_cons_zero, List.set_cons_succ]
        refine till_take 1 (v := .pointer (some ⟨b8, 0, none⟩)) (some 47) rfl rfl rfl (by kernel_rfl) (by kernel_rfl) (by kernel_rfl) (by kernel_rfl) (fun _ _ _ h => h) (Or.inl ⟨by rfl, fun u hu => by obtain ⟨b0, b1, b2, b3, b4, b5, b6⟩ := hu; go_simp⟩) (unhide HS0) ?_
        try simp only [Act.put, List.setIfInBounds_toArray, List.set_cons_zero, List.set_cons_succ]
        refine till_take 2 (v := .pointer (some ⟨b8, 0, none⟩)) (some 48) rfl rfl rfl (by kernel_rfl) (by kernel_rfl) (by kernel_rfl) (by kernel_rfl) (fun _ _ _ h => h) (Or.inl ⟨by rfl, fun u hu => by obtain ⟨b0, b1, b2, b3, b4, b5, b6⟩ := hu; go_simp⟩) (unhide HS0) ?_
        try simp only [Act.put, List.setIfInBounds_toArray, List.set_cons_zero, List.set_cons_succ]
        refine till_take 3 (v := .string yk) (some 49) rfl rfl rfl (by kernel_rfl) (by kernel_rfl) (by kernel_rfl) (by kernel_rfl) (fun _ _ _ h => h) (Or.inl ⟨by rfl, fun u hu => by obtain ⟨b0, b1, b2, b3, b4, b5, b6⟩ := hu; go_simp⟩) (unhide HS0) ?_
        try simp only [Act.put, List.setIfInBounds_toArray, List.set_cons_zero, List.set_cons_succ]
        refine till_take 5 (v := .pointer (some ⟨b8, 0, none⟩)) (some 51) rfl rfl rfl (by kernel_rfl) (by kernel_rfl) (by kernel_rfl) (by kernel_rfl) (fun _ _ _ h => h) (Or.inl ⟨by rfl, fun u hu => by obtain ⟨b0, b1, b2, b3, b4, b5, b6⟩ := hu; go_simp⟩) (unhide HS0) ?_
        try simp only [Act.put, List.setIfInBounds_toArray, List.set_cons_zero, List.set_cons_succ]
        refine till_take 6 (v := .pointer (some ⟨b8, 1, none⟩)) (some 52) rfl rfl rfl (by kernel_rfl) (by kernel_rfl) (by kernel_rfl) (by kernel_rfl) (fun _ _ _ h => h) (Or.inl ⟨by rfl, fun u hu => by obtain ⟨b0, b1, b2, b3, b4, b5, b6⟩ := hu; go_simp⟩) (unhide HS0) ?_
        try simp only [Act.put, List.setIfInBounds_toArray, List.set_cons_zero, List.set_cons_succ]
        refine till_take 7 (v := .agg #[.int .i64 yt0, .int .i64 yt1, .string yt2, .slice yt3 yt4 yt5, .slice yt6 yt7 yt8]) (some 53) rfl rfl rfl (by kernel_rfl) (by kernel_rfl) (by kernel_rfl) (by kernel_rfl) (fun _ _ _ h => h) (Or.inl ⟨by rfl, fun u hu => by obtain ⟨b0, b1, b2, b3, b4, b5, b6⟩ := hu; go_simp⟩) (unhide HS0) ?_
        try simp only [Act.put, List.setIfInBounds_toArray, List.set_cons_zero, List.set_cons_succ]
        refine till_one 4 (by kernel_rfl) rfl (fun K hK => ?_)
        go_simp
        refine (unhide HCl W.drew).mono ?_
        rintro e W2 ⟨rfl, b2⟩
        have X2 : Below W.heap.size W W2 := below_drew_of' b2
        have HS2 : Hid (W2.cell? ⟨go, 0, none⟩ = some (.slice so q sc) ∧ W2.cell? ⟨b8, 0, none⟩ = some (.string yk) ∧ W2.cell? ⟨b8, 1, none⟩ = some (.int .i64 yt0) ∧ W2.cell? ⟨b8, 2, none⟩ = some (.int .i64 yt1) ∧ W2.cell? ⟨b8, 3, none⟩ = some (.string yt2) ∧ W2.cell? ⟨b8, 4, none⟩ = some (.slice yt3 yt4 yt5) ∧ W2.cell? ⟨b8, 5, none⟩ = some (.slice yt6 yt7 yt8)) := hide ⟨cell_later X2 ((unhide HS0).1), cell_later X2 ((unhide HS0).2.1), cell_later X2 ((unhide HS0).2.2.1), cell_later X2 ((unhide HS0).2.2.2.1), cell_later X2 ((unhide HS0).2.2.2.2.1), cell_later X2 ((unhide HS0).2.2.2.2.2.1), cell_later X2 ((unhide HS0).2.2.2.2.2.2)⟩
        have H2 := hide X2
        clear b2 X2
        go_wp2_with fail
        refine hK.out _ _ (Or.inr (unhide HS2)) ?_
        clear hK K HS0
        try simp only [Act.put, List.setIfInBounds_toArray, List.set_cons_zero, List.set_cons_succ]
        refine till_one 8 (by kernel_rfl) rfl (fun K hK => ?_)
        have CC := hide (unhide HCo W2 (unhide H2))
        go_simp
        refine (unhide CC).mono ?_
        rintro e W3 ⟨⟨d0, d1, d2, d3, d4, d5, d6, d7, d8⟩, rfl, b3, q3⟩
        dsimp only [th5] at q3 ⊢
        have HS3 : Hid (W3.cell? ⟨go, 0, none⟩ = some (.slice so q sc) ∧ W3.cell? ⟨b8, 0, none⟩ = some (.string yk) ∧ W3.cell? ⟨b8, 1, none⟩ = some (.int .i64 yt0) ∧ W3.cell? ⟨b8, 2, none⟩ = some (.int .i64 yt1) ∧ W3.cell? ⟨b8, 3, none⟩ = some (.string yt2) ∧ W3.cell? ⟨b8, 4, none⟩ = some (.slice yt3 yt4 yt5) ∧ W3.cell? ⟨b8, 5, none⟩ = some (.slice yt6 yt7 yt8)) := hide ⟨cell_later b3 ((unhide HS2).1), cell_later b3 ((unhide HS2).2.1), cell_later b3 ((unhide HS2).2.2.1), cell_later b3 ((unhide HS2).2.2.2.1), cell_later b3 ((unhide HS2).2.2.2.2.1), cell_later b3 ((unhide HS2).2.2.2.2.2.1), cell_later b3 ((unhide HS2).2.2.2.2.2.2)⟩
        have H3 := hide (And.intro ((unhide H2).trans (b3.mono (unhide H2).size)) (q3.weak (Q := fun b => W.heap.size ≤ b ∧ b < W3.heap.size) (fun b hb => ⟨by have := hb.1; have := (unhide H2).size; omega, hb.2⟩)))
        clear b3 q3 CC
        go_wp2_with fail
        refine hK.out _ _ (Or.inr (unhide HS3)) ?_
        clear hK K HS2
        try simp only [Act.put, List.setIfInBounds_toArray, List.set_cons_zero, List.set_cons_succ]
        refine till_one 9 (by kernel_rfl) rfl (fun K hK => ?_)
        obtain ⟨b0, b1, b2, b3, b4, b5, b6⟩ := unhide HS3
        go_simp
        refine hK.out _ _ (Or.inr (unhide HS3)) ?_
        clear hK K b0 b1 b2 b3 b4 b5 b6
        try simp only [Act.put, List.setIfInBounds_toArray, List.set_cons_zero, List.set_cons_succ]
        refine till_one 10 (by kernel_rfl) rfl (fun K hK => ?_)
        go_simp
        obtain ⟨W4, hW4⟩ : ∃ W4, W3.alloc (.cells #[.string yk, .bool false, .int .i64 d0, .int .i64 d1, .string d2, .slice d3 d4 d5, .slice d6 d7 d8] 36) = W4 := ⟨_, rfl⟩
        have X4 : Below W3.heap.size W3 W4 := by rw [← hW4]; exact (Below.refl _ _).alloc (Nat.le_refl _) _
        have at4 : W4.heap[W3.heap.size]? = some (.cells #[.string yk, .bool false, .int .i64 d0, .int .i64 d1, .string d2, .slice d3 d4 d5, .slice d6 d7 d8] 36 (0, 0)) := by rw [← hW4]; exact heap_alloc_new W3 _
        rw [hW4]
        have HS4 : Hid (W4.cell? ⟨go, 0, none⟩ = some (.slice so q sc) ∧ W4.cell? ⟨b8, 0, none⟩ = some (.string yk) ∧ W4.cell? ⟨b8, 1, none⟩ = some (.int .i64 yt0) ∧ W4.cell? ⟨b8, 2, none⟩ = some (.int .i64 yt1) ∧ W4.cell? ⟨b8, 3, none⟩ = some (.string yt2) ∧ W4.cell? ⟨b8, 4, none⟩ = some (.slice yt3 yt4 yt5) ∧ W4.cell? ⟨b8, 5, none⟩ = some (.slice yt6 yt7 yt8)) := hide ⟨cell_later X4 ((unhide HS3).1), cell_later X4 ((unhide HS3).2.1), cell_later X4 ((unhide HS3).2.2.1), cell_later X4 ((unhide HS3).2.2.2.1), cell_later X4 ((unhide HS3).2.2.2.2.1), cell_later X4 ((unhide HS3).2.2.2.2.2.1), cell_later X4 ((unhide HS3).2.2.2.2.2.2)⟩
        have H4 : Hid (Below W.heap.size W W4 ∧ IsQ W4 (fun b => W.heap.size ≤ b ∧ b < W4.heap.size) yv (.agg #[.int .i64 d0, .int .i64 d1, .string d2, .slice d3 d4 d5, .slice d6 d7 d8])) := hide ⟨(unhide H3).1.trans (X4.mono (unhide H3).1.size), ((unhide H3).2.move (fun b hb => X4.block b hb.2)).weak (fun b hb => ⟨hb.1, Nat.lt_of_lt_of_le hb.2 X4.size⟩)⟩
        obtain ⟨h3s, hh3s⟩ : ∃ h3s, W3.heap.size = h3s := ⟨_, rfl⟩
        rw [hh3s] at at4 ⊢
        refine hK.out _ _ (Or.inr (unhide HS4)) ?_
        clear hK K hW4 X4 hh3s HS3 H3 H2
        try simp only [Act.put, List.setIfInBounds_toArray, List.set_cons_zero, List.set_cons_succ]
        refine till_one 11 (by kernel_rfl) rfl (fun K hK => ?_)
        refine step_append_lies _ (by rfl) _ _ 25 (by rfl) lo 36 iv (.agg #[.string ⟨#[]⟩, .bool false, .int .i64 0, .int .i64 0, .string ⟨#[]⟩, .slice none 0 0, .slice none 0 0]) 7 104 Try.underlying25 (unhide HI).1 (unhide HI).2.1 (unhide HI).2.2.1 (unhide HI).2.2.2 rfl (by omega) (.slice so q sc) q CS (by rfl) (unhide HOW W4 (unhide H4).1) ⟨h3s, 0, none⟩ 1 1 [.string yk, .bool false, .int .i64 d0, .int .i64 d1, .string d2, .slice d3 d4 d5, .slice d6 d7 d8] (by rfl) (by rfl) (World.news_of_block at4) (by simp [Value.oneCell']) (by omega) (by unfold maxLen; omega) (by omega) (Nat.le_trans hloW (unhide H4).1.size) _ rfl ?_
        intro g5 cap5 W5 hown5 hgrow5 hat5 hlt5
        change K (Act.put _ (some 57) _) W5
        have cz5 : W5.cell? ⟨go, 0, none⟩ = some (.slice so q sc) := (hgrow5.cell_far ⟨go, 0, none⟩ (Nat.lt_of_lt_of_le (unhide HGO).1 (unhide H4).1.size) (unhide HGO).2.1).trans ((unhide HS4).1)
        have HS5 : Hid (W5.cell? ⟨go, 0, none⟩ = some (.slice so q sc) ∧ W5.cell? ⟨b8, 0, none⟩ = some (.string yk) ∧ W5.cell? ⟨b8, 1, none⟩ = some (.int .i64 yt0) ∧ W5.cell? ⟨b8, 2, none⟩ = some (.int .i64 yt1) ∧ W5.cell? ⟨b8, 3, none⟩ = some (.string yt2) ∧ W5.cell? ⟨b8, 4, none⟩ = some (.slice yt3 yt4 yt5) ∧ W5.cell? ⟨b8, 5, none⟩ = some (.slice yt6 yt7 yt8)) := hide ⟨cz5, (hgrow5.cell_far ⟨b8, 0, none⟩ (Nat.lt_of_lt_of_le (unhide HGO).2.2.1 (unhide H4).1.size) (unhide HGO).2.2.2.1).trans ((unhide HS4).2.1), (hgrow5.cell_far ⟨b8, 1, none⟩ (Nat.lt_of_lt_of_le (unhide HGO).2.2.1 (unhide H4).1.size) (unhide HGO).2.2.2.1).trans ((unhide HS4).2.2.1), (hgrow5.cell_far ⟨b8, 2, none⟩ (Nat.lt_of_lt_of_le (unhide HGO).2.2.1 (unhide H4).1.size) (unhide HGO).2.2.2.1).trans ((unhide HS4).2.2.2.1), (hgrow5.cell_far ⟨b8, 3, none⟩ (Nat.lt_of_lt_of_le (unhide HGO).2.2.1 (unhide H4).1.size) (unhide HGO).2.2.2.1).trans ((unhide HS4).2.2.2.2.1), (hgrow5.cell_far ⟨b8, 4, none⟩ (Nat.lt_of_lt_of_le (unhide HGO).2.2.1 (unhide H4).1.size) (unhide HGO).2.2.2.1).trans ((unhide HS4).2.2.2.2.2.1), (hgrow5.cell_far ⟨b8, 5, none⟩ (Nat.lt_of_lt_of_le (unhide HGO).2.2.1 (unhide H4).1.size) (unhide HGO).2.2.2.1).trans ((unhide HS4).2.2.2.2.2.2)⟩
        have f5 : W5.frozen? ⟨go, 0, none⟩ = false := (hgrow5.frozen_far ⟨go, 0, none⟩ (Nat.lt_of_lt_of_le (unhide HGO).1 (unhide H4).1.size) (unhide HGO).2.1).trans ((unhide HGO).2.2.2.2 W4 (unhide H4).1)
        have H5 := hide (And.intro hown5 (And.intro hgrow5 hat5))
        refine hK.out _ _ (Or.inr (unhide HS5)) ?_
        clear hK K hown5 hgrow5 hat5 hlt5 HS4 cz5
        try simp only [Act.put, List.setIfInBounds_toArray, List.set_cons_zero, List.set_cons_succ]
        refine till_one 12 (by kernel_rfl) rfl (fun K hK => ?_)
        obtain ⟨b0, b1, b2, b3, b4, b5, b6⟩ := unhide HS5
        go_simp
        refine hK.out _ _ (Or.inl (by first | rfl | trivial)) ?_
        clear hK K b0 b1 b2 b3 b4 b5 b6 f5
        try simp only [Act.put, List.setIfInBounds_toArray, List.set_cons_zero, List.set_cons_succ]
        refine till_done (by kernel_rfl) ?_ _
        have RR := unhide HEND W4 W5 g5 cap5 (d0, d1, d2, d3, d4, d5, d6, d7, d8) (unhide H4).1 (unhide H4).2 (unhide H5).1 (unhide H5).2.1 (unhide H5).2.2
        exact RR
    | some ii =>
      cases ob with
      | none =>
        obtain ⟨⟨xk', xv⟩, hex⟩ : ∃ e, es[ii]? = some e := ⟨_, List.getElem?_eq_getElem (by have := unhide HN; have := hmem.1 ii rfl; simp only [keysE, List.length_map] at this; omega)⟩
        obtain ⟨hkx, hv1, hentx⟩ := unhide HEA W hDb ii _ hex
        obtain ⟨xk, xt0, xt1, xt2, xt3, xt4, xt5, xt6, xt7, xt8, hepx⟩ : ∃ xk xt0 xt1 xt2 xt3 xt4 xt5 xt6 xt7 xt8, CA ii = (xk, xt0, xt1, xt2, xt3, xt4, xt5, xt6, xt7, xt8) := ⟨_, _, _, _, _, _, _, _, _, _, rfl⟩
        rw [hepx] at hkx hv1
        obtain rfl : xk = xk' := hkx
        dsimp only [ceL, List.tail_cons] at hv1
        have hrtx : 1 ≤ xk.size ∧ xk.size ≤ 32 ∧ rightB xv = true := by unfold entB at hentx; simp only [Bool.and_eq_true, decide_eq_true_eq] at hentx; exact ⟨hentx.1.1, hentx.1.2, hentx.2⟩
        have hsz : xk.size ≤ 32 := hrtx.2.1
        simp only [Option.map_some, Option.map_none, hepx, sdE] at hb7 hb8 ⊢
        obtain ⟨_, _, _, _, _, _, z76⟩ := row_cell7 hb7
        obtain ⟨_, _, _, _, _, _, z86⟩ := row_cell7 hb8
        have HCH : Hid (chI es fs (some ii, none) = [(xk, true, vl0)]) := hide (by simp [chI, hex])
        have HCl : Hid (∀ u, Calls Try.prog 23 #[.string xk] u fun e w' => e = .returned (.string xk) ∧ Below u.heap.size u w') := hide (fun u => str_clone xk u (by omega))
        obtain ⟨⟨sv, cs, h1, h2, h3, h4⟩, h5, h6⟩ := unhide HD
        obtain ⟨q, hq⟩ : ∃ q, cs.length = q := ⟨_, rfl⟩
        obtain ⟨so, sc, hsv⟩ : ∃ so sc, sv = .slice so q sc := by
          have := h2.row
          rw [hq] at this
          rcases this.2 with ⟨e, e2⟩ | ⟨b, cap, cur, e, _⟩
          · exact ⟨none, 0, by rw [e, e2]⟩
          · exact ⟨_, _, e⟩
        subst hsv
        have hqb : q < 1000 := by have := unhide HLT; rw [List.length_map] at h4; omega
        have hgol : go < W.heap.size := (Array.getElem?_eq_some_iff.1 h1).1
        have hbul : b7 < W.heap.size := (Array.getElem?_eq_some_iff.1 hb7).1
        have hgw : go < w7.heap.size := (Array.getElem?_eq_some_iff.1 (unhide H7).2.1).1
        have hgn : some go ≠ (Value.slice so q sc).ownBlock := fun e => by have := (h2.row.lt go e.symm).1; omega
        have hbn : some b7 ≠ (Value.slice so q sc).ownBlock := fun e => ty_ne ⟨_, hb7⟩ (row_ty h2.row e.symm) (by decide) rfl
        have HGO : Hid (go < W.heap.size ∧ some go ≠ (Value.slice so q sc).ownBlock ∧ b7 < W.heap.size ∧ some b7 ≠ (Value.slice so q sc).ownBlock ∧ ∀ u, Below W.heap.size W u → u.frozen? ⟨go, 0, none⟩ = false) := hide ⟨hgol, hgn, hbul, hbn, fun u hu => frozen_of_row u go 0 _ _ ((hu.block go hgol).trans h1)⟩
        obtain ⟨CS, hCS⟩ : ∃ CS, cellsC cs = CS := ⟨_, rfl⟩
        obtain ⟨lo, hlo⟩ : ∃ lo, w7.heap.size = lo := ⟨_, rfl⟩
        have HOW : Hid (∀ u, Below W.heap.size W u → u.ownsRow lo 36 7 (.slice so q sc) q CS) := hide (fun u hu => by
          have := (h2.later hu).row
          rw [hq, hCS, hlo] at this
          exact this)
        have hloW : lo ≤ W.heap.size := by omega
        obtain ⟨iv, hiv, hz0, hz1, hz2⟩ := info_parts infoCh
        have HI := hide (And.intro hiv (And.intro hz0 (And.intro hz1 hz2)))
        have HS0 : Hid (W.drew.cell? ⟨go, 0, none⟩ = some (.slice so q sc) ∧ W.drew.cell? ⟨b7, 0, none⟩ = some (.string xk) ∧ W.drew.cell? ⟨b7, 1, none⟩ = some (.int .i64 xt0) ∧ W.drew.cell? ⟨b7, 2, none⟩ = some (.int .i64 xt1) ∧ W.drew.cell? ⟨b7, 3, none⟩ = some (.string xt2) ∧ W.drew.cell? ⟨b7, 4, none⟩ = some (.slice xt3 xt4 xt5) ∧ W.drew.cell? ⟨b7, 5, none⟩ = some (.slice xt6 xt7 xt8)) := hide ⟨by rw [cell_of_row _ go 0 _ _ (0, 0) (show W.drew.heap[go]? = _ from h1)]; rfl, by rw [cell_of_row _ b7 0 _ _ (0, 0) (show W.drew.heap[b7]? = _ from hb7)]; rfl, by rw [cell_of_row _ b7 1 _ _ (0, 0) (show W.drew.heap[b7]? = _ from hb7)]; rfl, by rw [cell_of_row _ b7 2 _ _ (0, 0) (show W.drew.heap[b7]? = _ from hb7)]; rfl, by rw [cell_of_row _ b7 3 _ _ (0, 0) (show W.drew.heap[b7]? = _ from hb7)]; rfl, by rw [cell_of_row _ b7 4 _ _ (0, 0) (show W.drew.heap[b7]? = _ from hb7)]; rfl, by rw [cell_of_row _ b7 5 _ _ (0, 0) (show W.drew.heap[b7]? = _ from hb7)]; rfl⟩
        have HEND : Hid (∀ (W4 W5 : World) (g5 cap5 : Nat) , Below W.heap.size W W4 → IsQ W4 (fun b => W.heap.size ≤ b ∧ b < W4.heap.size) vl0 (.agg (th5 ((0, 0, ⟨#[]⟩, none, 0, 0, none, 0, 0) : Th5)).toArray) → W5.ownsRow lo 36 7 (.slice (some ⟨g5, 0, none⟩) (q + 1) cap5) (q + 1) (CS ++ (.string xk :: .bool true :: th5 ((0, 0, ⟨#[]⟩, none, 0, 0, none, 0, 0) : Th5))) → W4.grownBy W5 (Value.slice so q sc).ownBlock → ((Value.slice so q sc).ownBlock = some g5 ∨ g5 = W4.heap.size) → KeepsFrom w7.heap.size W (W5.setCell ⟨go, 0, none⟩ (.slice (some ⟨g5, 0, none⟩) (q + 1) cap5)) ∧ KeepS (fun b => b < w7.heap.size ∧ b ≠ go) (fun T => T = 55) W (W5.setCell ⟨go, 0, none⟩ (.slice (some ⟨g5, 0, none⟩) (q + 1) cap5)) ∧ DfI w w7 (W5.setCell ⟨go, 0, none⟩ (.slice (some ⟨g5, 0, none⟩) (q + 1) cap5)) go es fs ((pre ++ [(⟨(some ii, none), hx⟩ : { x // x ∈ its })]).map Subtype.val)) := hide (by
          intro W4 W5 g5 cap5  b4 q4 o5 g5' a5
          rw [← hlo, ← hCS] at o5
          rw [List.map_append, List.map_singleton]
          exact DfI.push h1 h2 h3 h4 h5 h6 hq (unhide HGW) hgw (unhide HCH) b4 q4 o5 g5' a5)
        clear h1 h2 h3 h4 h5 h6 hgol hbul hgw hgn hbn hiv hz0 hz1 hz2 hb7 hb8 hq hCS hlo
        clear hmem hnone hDb hex hv1 hentx hepx hrtx hj
        gi_wp2_with fail
        refine till_in (S := fun w' => w'.cell? ⟨go, 0, none⟩ = some (.slice so q sc) ∧ w'.cell? ⟨b7, 0, none⟩ = some (.string xk) ∧ w'.cell? ⟨b7, 1, none⟩ = some (.int .i64 xt0) ∧ w'.cell? ⟨b7, 2, none⟩ = some (.int .i64 xt1) ∧ w'.cell? ⟨b7, 3, none⟩ = some (.string xt2) ∧ w'.cell? ⟨b7, 4, none⟩ = some (.slice xt3 xt4 xt5) ∧ w'.cell? ⟨b7, 5, none⟩ = some (.slice xt6 xt7 xt8)) 8 (by kernel_rfl) ?nd2 ?nq2 ?_
        case nd2 =>
          intro i o ho c
          have : i < 9 := by
            have := (Array.getElem?_eq_some_iff.1 ho).1
            exact this
          rcases (show i = 0 ∨ i = 1 ∨ i = 2 ∨ i = 3 ∨ i = 4 ∨ i = 5 ∨ i = 6 ∨ i = 7 ∨ i = 8 by omega) with rfl | rfl | rfl | rfl | rfl | rfl | rfl | rfl | rfl <;> (cases ho; intro e; cases e)
        case nq2 =>
          rintro ⟨a, w, h⟩
          exact h
        refine till_take 0 (v := .slice so q sc) (some 25) rfl rfl rfl (by kernel_rfl) (by kernel_rfl) (by kernel_rfl) (by kernel_rfl) (fun _ _ _ h => h) (Or.inl ⟨by rfl, fun u hu => by obtain ⟨b0, b1, b2, b3, b4, b5, b6⟩ := hu; go_simp⟩) (unhide HS0) ?_
        try simp only [Act.put, List.setIfInBounds_toArray, List.set_cons_zero, List.set_cons_succ]
        refine till_take 1 (v := .pointer (some ⟨b7, 0, none⟩)) (some 26) rfl rfl rfl (by kernel_rfl) (by kernel_rfl) (by kernel_rfl) (by kernel_rfl) (fun _ _ _ h => h) (Or.inl ⟨by rfl, fun u hu => by obtain ⟨b0, b1, b2, b3, b4, b5, b6⟩ := hu; go_simp⟩) (unhide HS0) ?_
        try simp only [Act.put, List.setIfInBounds_toArray, List.set_cons_zero, List.set_cons_succ]
        refine till_take 2 (v := .pointer (some ⟨b7, 0, none⟩)) (some 27) rfl rfl rfl (by kernel_rfl) (by kernel_rfl) (by kernel_rfl) (by kernel_rfl) (fun _ _ _ h => h) (Or.inl ⟨by rfl, fun u hu => by obtain ⟨b0, b1, b2, b3, b4, b5, b6⟩ := hu; go_simp⟩) (unhide HS0) ?_
        try simp only [Act.put, List.setIfInBounds_toArray, List.set_cons_zero, List.set_cons_succ]
        refine till_take 3 (v := .string xk) (some 28) rfl rfl rfl (by kernel_rfl) (by kernel_rfl) (by kernel_rfl) (by kernel_rfl) (fun _ _ _ h => h) (Or.inl ⟨by rfl, fun u hu => by obtain ⟨b0, b1, b2, b3, b4, b5, b6⟩ := hu; go_simp⟩) (unhide HS0) ?_
        try simp only [Act.put, List.setIfInBounds_toArray, List.set_cons_zero, List.set_cons_succ]
        refine till_one 4 (by kernel_rfl) rfl (fun K hK => ?_)
        go_simp
        refine (unhide HCl W.drew).mono ?_
        rintro e W2 ⟨rfl, b2⟩
        have X2 : Below W.heap.size W W2 := below_drew_of' b2
        have HS2 : Hid (W2.cell? ⟨go, 0, none⟩ = some (.slice so q sc) ∧ W2.cell? ⟨b7, 0, none⟩ = some (.string xk) ∧ W2.cell? ⟨b7, 1, none⟩ = some (.int .i64 xt0) ∧ W2.cell? ⟨b7, 2, none⟩ = some (.int .i64 xt1) ∧ W2.cell? ⟨b7, 3, none⟩ = some (.string xt2) ∧ W2.cell? ⟨b7, 4, none⟩ = some (.slice xt3 xt4 xt5) ∧ W2.cell? ⟨b7, 5, none⟩ = some (.slice xt6 xt7 xt8)) := hide ⟨cell_later X2 ((unhide HS0).1), cell_later X2 ((unhide HS0).2.1), cell_later X2 ((unhide HS0).2.2.1), cell_later X2 ((unhide HS0).2.2.2.1), cell_later X2 ((unhide HS0).2.2.2.2.1), cell_later X2 ((unhide HS0).2.2.2.2.2.1), cell_later X2 ((unhide HS0).2.2.2.2.2.2)⟩
        have H2 := hide X2
        clear b2 X2
        go_wp2_with fail
        refine hK.out _ _ (Or.inr (unhide HS2)) ?_
        clear hK K HS0
        try simp only [Act.put, List.setIfInBounds_toArray, List.set_cons_zero, List.set_cons_succ]
        have H3 : Hid (Below W.heap.size W W2 ∧ IsQ W2 (fun b => W.heap.size ≤ b ∧ b < W2.heap.size) vl0 (.agg #[.int .i64 0, .int .i64 0, .string ⟨#[]⟩, .slice none 0 0, .slice none 0 0])) := hide ⟨unhide H2, zero_qD _ _⟩
        refine till_one 5 (by kernel_rfl) rfl (fun K hK => ?_)
        obtain ⟨b0, b1, b2, b3, b4, b5, b6⟩ := unhide HS2
        go_simp
        refine hK.out _ _ (Or.inr (unhide HS2)) ?_
        clear hK K b0 b1 b2 b3 b4 b5 b6
        try simp only [Act.put, List.setIfInBounds_toArray, List.set_cons_zero, List.set_cons_succ]
        refine till_one 6 (by kernel_rfl) rfl (fun K hK => ?_)
        go_simp
        obtain ⟨W4, hW4⟩ : ∃ W4, W2.alloc (.cells #[.string xk, .bool true, .int .i64 0, .int .i64 0, .string ⟨#[]⟩, .slice none 0 0, .slice none 0 0] 36) = W4 := ⟨_, rfl⟩
        have X4 : Below W2.heap.size W2 W4 := by rw [← hW4]; exact (Below.refl _ _).alloc (Nat.le_refl _) _
        have at4 : W4.heap[W2.heap.size]? = some (.cells #[.string xk, .bool true, .int .i64 0, .int .i64 0, .string ⟨#[]⟩, .slice none 0 0, .slice none 0 0] 36 (0, 0)) := by rw [← hW4]; exact heap_alloc_new W2 _
        rw [hW4]
        have HS4 : Hid (W4.cell? ⟨go, 0, none⟩ = some (.slice so q sc) ∧ W4.cell? ⟨b7, 0, none⟩ = some (.string xk) ∧ W4.cell? ⟨b7, 1, none⟩ = some (.int .i64 xt0) ∧ W4.cell? ⟨b7, 2, none⟩ = some (.int .i64 xt1) ∧ W4.cell? ⟨b7, 3, none⟩ = some (.string xt2) ∧ W4.cell? ⟨b7, 4, none⟩ = some (.slice xt3 xt4 xt5) ∧ W4.cell? ⟨b7, 5, none⟩ = some (.slice xt6 xt7 xt8)) := hide ⟨cell_later X4 ((unhide HS2).1), cell_later X4 ((unhide HS2).2.1), cell_later X4 ((unhide HS2).2.2.1), cell_later X4 ((unhide HS2).2.2.2.1), cell_later X4 ((unhide HS2).2.2.2.2.1), cell_later X4 ((unhide HS2).2.2.2.2.2.1), cell_later X4 ((unhide HS2).2.2.2.2.2.2)⟩
        have H4 : Hid (Below W.heap.size W W4 ∧ IsQ W4 (fun b => W.heap.size ≤ b ∧ b < W4.heap.size) vl0 (.agg #[.int .i64 0, .int .i64 0, .string ⟨#[]⟩, .slice none 0 0, .slice none 0 0])) := hide ⟨(unhide H3).1.trans (X4.mono (unhide H3).1.size), ((unhide H3).2.move (fun b hb => X4.block b hb.2)).weak (fun b hb => ⟨hb.1, Nat.lt_of_lt_of_le hb.2 X4.size⟩)⟩
        obtain ⟨h3s, hh3s⟩ : ∃ h3s, W2.heap.size = h3s := ⟨_, rfl⟩
        rw [hh3s] at at4 ⊢
        refine hK.out _ _ (Or.inr (unhide HS4)) ?_
        clear hK K hW4 X4 hh3s HS2 H3 H2
        try simp only [Act.put, List.setIfInBounds_toArray, List.set_cons_zero, List.set_cons_succ]
        refine till_one 7 (by kernel_rfl) rfl (fun K hK => ?_)
        refine step_append_lies _ (by rfl) _ _ 25 (by rfl) lo 36 iv (.agg #[.string ⟨#[]⟩, .bool false, .int .i64 0, .int .i64 0, .string ⟨#[]⟩, .slice none 0 0, .slice none 0 0]) 7 104 Try.underlying25 (unhide HI).1 (unhide HI).2.1 (unhide HI).2.2.1 (unhide HI).2.2.2 rfl (by omega) (.slice so q sc) q CS (by rfl) (unhide HOW W4 (unhide H4).1) ⟨h3s, 0, none⟩ 1 1 [.string xk, .bool true, .int .i64 0, .int .i64 0, .string ⟨#[]⟩, .slice none 0 0, .slice none 0 0] (by rfl) (by rfl) (World.news_of_block at4) (by simp [Value.oneCell']) (by omega) (by unfold maxLen; omega) (by omega) (Nat.le_trans hloW (unhide H4).1.size) _ rfl ?_
        intro g5 cap5 W5 hown5 hgrow5 hat5 hlt5
        change K (Act.put _ (some 32) _) W5
        have cz5 : W5.cell? ⟨go, 0, none⟩ = some (.slice so q sc) := (hgrow5.cell_far ⟨go, 0, none⟩ (Nat.lt_of_lt_of_le (unhide HGO).1 (unhide H4).1.size) (unhide HGO).2.1).trans ((unhide HS4).1)
        have HS5 : Hid (W5.cell? ⟨go, 0, none⟩ = some (.slice so q sc) ∧ W5.cell? ⟨b7, 0, none⟩ = some (.string xk) ∧ W5.cell? ⟨b7, 1, none⟩ = some (.int .i64 xt0) ∧ W5.cell? ⟨b7, 2, none⟩ = some (.int .i64 xt1) ∧ W5.cell? ⟨b7, 3, none⟩ = some (.string xt2) ∧ W5.cell? ⟨b7, 4, none⟩ = some (.slice xt3 xt4 xt5) ∧ W5.cell? ⟨b7, 5, none⟩ = some (.slice xt6 xt7 xt8)) := hide ⟨cz5, (hgrow5.cell_far ⟨b7, 0, none⟩ (Nat.lt_of_lt_of_le (unhide HGO).2.2.1 (unhide H4).1.size) (unhide HGO).2.2.2.1).trans ((unhide HS4).2.1), (hgrow5.cell_far ⟨b7, 1, none⟩ (Nat.lt_of_lt_of_le (unhide HGO).2.2.1 (unhide H4).1.size) (unhide HGO).2.2.2.1).trans ((unhide HS4).2.2.1), (hgrow5.cell_far ⟨b7, 2, none⟩ (Nat.lt_of_lt_of_le (unhide HGO).2.2.1 (unhide H4).1.size) (unhide HGO).2.2.2.1).trans ((unhide HS4).2.2.2.1), (hgrow5.cell_far ⟨b7, 3, none⟩ (Nat.lt_of_lt_of_le (unhide HGO).2.2.1 (unhide H4).1.size) (unhide HGO).2.2.2.1).trans ((unhide HS4).2.2.2.2.1), (hgrow5.cell_far ⟨b7, 4, none⟩ (Nat.lt_of_lt_of_le (unhide HGO).2.2.1 (unhide H4).1.size) (unhide HGO).2.2.2.1).trans ((unhide HS4).2.2.2.2.2.1), (hgrow5.cell_far ⟨b7, 5, none⟩ (Nat.lt_of_lt_of_le (unhide HGO).2.2.1 (unhide H4).1.size) (unhide HGO).2.2.2.1).trans ((unhide HS4).2.2.2.2.2.2)⟩
        have f5 : W5.frozen? ⟨go, 0, none⟩ = false := (hgrow5.frozen_far ⟨go, 0, none⟩ (Nat.lt_of_lt_of_le (unhide HGO).1 (unhide H4).1.size) (unhide HGO).2.1).trans ((unhide HGO).2.2.2.2 W4 (unhide H4).1)
        have H5 := hide (And.intro hown5 (And.intro hgrow5 hat5))
        refine hK.out _ _ (Or.inr (unhide HS5)) ?_
        clear hK K hown5 hgrow5 hat5 hlt5 HS4 cz5
        try simp only [Act.put, List.setIfInBounds_toArray, List.set_cons_zero, List.set_cons_succ]
        refine till_one 8 (by kernel_rfl) rfl (fun K hK => ?_)
        obtain ⟨b0, b1, b2, b3, b4, b5, b6⟩ := unhide HS5
        go_simp
        refine hK.out _ _ (Or.inl (by first | rfl | trivial)) ?_
        clear hK K b0 b1 b2 b3 b4 b5 b6 f5
        try simp only [Act.put, List.setIfInBounds_toArray, List.set_cons_zero, List.set_cons_succ]
        refine till_done (by kernel_rfl) ?_ _
        have RR := unhide HEND W4 W5 g5 cap5 (unhide H4).1 (unhide H4).2 (unhide H5).1 (unhide H5).2.1 (unhide H5).2.2
        exact RR
      | some jj =>
        obtain ⟨⟨xk', xv⟩, hex⟩ : ∃ e, es[ii]? = some e := ⟨_, List.getElem?_eq_getElem (by have := unhide HN; have := hmem.1 ii rfl; simp only [keysE, List.length_map] at this; omega)⟩
        obtain ⟨hkx, hv1, hentx⟩ := unhide HEA W hDb ii _ hex
        obtain ⟨xk, xt0, xt1, xt2, xt3, xt4, xt5, xt6, xt7, xt8, hepx⟩ : ∃ xk xt0 xt1 xt2 xt3 xt4 xt5 xt6 xt7 xt8, CA ii = (xk, xt0, xt1, xt2, xt3, xt4, xt5, xt6, xt7, xt8) := ⟨_, _, _, _, _, _, _, _, _, _, rfl⟩
        rw [hepx] at hkx hv1
        obtain rfl : xk = xk' := hkx
        dsimp only [ceL, List.tail_cons] at hv1
        have hrtx : 1 ≤ xk.size ∧ xk.size ≤ 32 ∧ rightB xv = true := by unfold entB at hentx; simp only [Bool.and_eq_true, decide_eq_true_eq] at hentx; exact ⟨hentx.1.1, hentx.1.2, hentx.2⟩
        obtain ⟨⟨yk', yv⟩, hey⟩ : ∃ e, fs[jj]? = some e := ⟨_, List.getElem?_eq_getElem (by have := unhide HN; have := hmem.2 jj rfl; simp only [keysE, List.length_map] at this; omega)⟩
        obtain ⟨hky, hv2, henty⟩ := unhide HEB W hDb jj _ hey
        obtain ⟨yk, yt0, yt1, yt2, yt3, yt4, yt5, yt6, yt7, yt8, hepy⟩ : ∃ yk yt0 yt1 yt2 yt3 yt4 yt5 yt6 yt7 yt8, CB jj = (yk, yt0, yt1, yt2, yt3, yt4, yt5, yt6, yt7, yt8) := ⟨_, _, _, _, _, _, _, _, _, _, rfl⟩
        rw [hepy] at hky hv2
        obtain rfl : yk = yk' := hky
        dsimp only [ceL, List.tail_cons] at hv2
        have hrty : 1 ≤ yk.size ∧ yk.size ≤ 32 ∧ rightB yv = true := by unfold entB at henty; simp only [Bool.and_eq_true, decide_eq_true_eq] at henty; exact ⟨henty.1.1, henty.1.2, henty.2⟩
        have hrt2 := hrty.2.2
        have hsz : yk.size ≤ 32 := hrty.2.1
        simp only [Option.map_some, hepx, hepy, sdE] at hb7 hb8 ⊢
        obtain ⟨z70, z71, z72, z73, z74, z75, z76⟩ := row_cell7 hb7
        obtain ⟨z80, z81, z82, z83, z84, z85, z86⟩ := row_cell7 hb8
        have CC := hide (compare_code xv yv _ _ B W hv1 hv2 (Nat.le_trans (unhide HB) hDb.size))
        have HCI : Hid (chI es fs (some ii, some jj) = if ord0 xv yv = 0 then [] else [(yk, false, yv)]) := hide (by simp [chI, hex, hey])
        have HBB := hide (And.intro hb7 (And.intro hb8 (And.intro hDb (And.intro hv2 hrt2))))
        obtain ⟨V, hV⟩ : ∃ V, V = W := ⟨_, rfl⟩
        subst hV
        obtain ⟨R, hRR⟩ : ∃ R, ord0 xv yv = R := ⟨_, rfl⟩
        rw [hRR] at CC HCI
        clear hmem hnone hDb hex hey hv1 hv2 hentx henty hepx hepy hrtx hrty hrt2 hj hb7 hb8 hRR
        gi_wp2_with fail
        refine ⟨trivial, callsIn_wide.2 ((unhide CC).mono ?_)⟩
        rintro e W ⟨rfl, bW⟩
        have HKV : Hid (KeepsFrom w7.heap.size V W ∧ KeepS (fun b => b < w7.heap.size ∧ b ≠ go) (fun T => T = 55) V W) := hide ⟨⟨bW.size, fun k o _ hk _ => (bW.block k (Array.getElem?_eq_some_iff.1 hk).1).trans hk⟩, KeepS.of_below bW (fun b hb => by have := hb.1; have := (unhide HD).size; omega)⟩
        have HD2 := hide ((unhide HD).later bW)
        obtain ⟨hb7, hb8, hDb0, hv20, hrt2⟩ := unhide HBB
        have hb7 := (bW.block b7 (Array.getElem?_eq_some_iff.1 hb7).1).trans hb7
        have hb8 := (bW.block b8 (Array.getElem?_eq_some_iff.1 hb8).1).trans hb8
        have hDb : Below w.heap.size w W := hDb0.trans (bW.mono hDb0.size)
        have hv2 := IsV.mono (bW.mono (Nat.le_trans (unhide HB) hDb0.size)) hv20
        clear HD bW CC hDb0 hv20 HBB z70 z71 z72 z73 z74 z75 z76 z80 z81 z82 z83 z84 z85 z86
        have HD := HD2
        clear HD2
        by_cases hz : R = 0
        · subst hz
          have HCH : Hid (chI es fs (some ii, some jj) = []) := hide (by rw [unhide HCI, if_pos rfl])
          clear hb7 hb8 hDb hv2 hrt2 HCI hsz
          gi_wp2_with fail
          obtain ⟨⟨sv, cs, h1, h2, h3, h4⟩, h5, h6⟩ := unhide HD
          exact ⟨(unhide HKV).1, (unhide HKV).2, by show DfI w w7 W go es fs ((pre ++ [(⟨(some ii, some jj), hx⟩ : { x // x ∈ its })]).map Subtype.val); rw [List.map_append, List.map_singleton]; exact ⟨⟨sv, cs, h1, h2, by rw [List.flatMap_append, List.flatMap_singleton, unhide HCH, List.append_nil]; exact h3, by rw [List.length_append]; omega⟩, h5, h6⟩⟩
        · have hz1 : (R == 0) = false := beq_eq_false_iff_ne.2 hz
          have HCH : Hid (chI es fs (some ii, some jj) = [(yk, false, yv)]) := hide (by rw [unhide HCI, if_neg hz])
          have HCl : Hid (∀ u, Calls Try.prog 23 #[.string yk] u fun e w' => e = .returned (.string yk) ∧ Below u.heap.size u w') := hide (fun u => str_clone yk u (by omega))
          have HCo : Hid (∀ u, Below W.heap.size W u → Calls Try.prog 25 #[.agg #[.int .i64 yt0, .int .i64 yt1, .string yt2, .slice yt3 yt4 yt5, .slice yt6 yt7 yt8]] u fun e w' => ∃ d : Th5, e = .returned (.agg (th5 d).toArray) ∧ Below u.heap.size u w' ∧ IsQ w' (fun b => u.heap.size ≤ b ∧ b < w'.heap.size) yv (.agg (th5 d).toArray)) := hide (fun u hu => by
            refine (copy_any yv _ B u (IsV.mono (hu.mono (Nat.le_trans (unhide HB) (Nat.le_trans hDb.size (Nat.le_refl _)))) hv2) (Nat.le_trans (unhide HB) (Nat.le_trans hDb.size hu.size))).mono ?_
            rintro e w' ⟨x', rfl, b, q, -⟩
            have hq := q hrt2
            obtain ⟨d, rfl⟩ := isP_th5 hq.1
            exact ⟨d, rfl, b, hq⟩)
          obtain ⟨⟨sv, cs, h1, h2, h3, h4⟩, h5, h6⟩ := unhide HD
          obtain ⟨q, hq⟩ : ∃ q, cs.length = q := ⟨_, rfl⟩
          obtain ⟨so, sc, hsv⟩ : ∃ so sc, sv = .slice so q sc := by
            have := h2.row
            rw [hq] at this
            rcases this.2 with ⟨e, e2⟩ | ⟨b, cap, cur, e, _⟩
            · exact ⟨none, 0, by rw [e, e2]⟩
            · exact ⟨_, _, e⟩
          subst hsv
          have hqb : q < 1000 := by have := unhide HLT; rw [List.length_map] at h4; omega
          have hgol : go < W.heap.size := (Array.getElem?_eq_some_iff.1 h1).1
          have hbul : b8 < W.heap.size := (Array.getElem?_eq_some_iff.1 hb8).1
          have hgw : go < w7.heap.size := (Array.getElem?_eq_some_iff.1 (unhide H7).2.1).1
          have hgn : some go ≠ (Value.slice so q sc).ownBlock := fun e => by have := (h2.row.lt go e.symm).1; omega
          have hbn : some b8 ≠ (Value.slice so q sc).ownBlock := fun e => ty_ne ⟨_, hb8⟩ (row_ty h2.row e.symm) (by decide) rfl
          have HGO : Hid (go < W.heap.size ∧ some go ≠ (Value.slice so q sc).ownBlock ∧ b8 < W.heap.size ∧ some b8 ≠ (Value.slice so q sc).ownBlock ∧ ∀ u, Below W.heap.size W u → u.frozen? ⟨go, 0, none⟩ = false) := hide ⟨hgol, hgn, hbul, hbn, fun u hu => frozen_of_row u go 0 _ _ ((hu.block go hgol).trans h1)⟩
          obtain ⟨CS, hCS⟩ : ∃ CS, cellsC cs = CS := ⟨_, rfl⟩
          obtain ⟨lo, hlo⟩ : ∃ lo, w7.heap.size = lo := ⟨_, rfl⟩
          have HOW : Hid (∀ u, Below W.heap.size W u → u.ownsRow lo 36 7 (.slice so q sc) q CS) := hide (fun u hu => by
            have := (h2.later hu).row
            rw [hq, hCS, hlo] at this
            exact this)
          have hloW : lo ≤ W.heap.size := by omega
          obtain ⟨iv, hiv, hz0, hz1, hz2⟩ := info_parts infoCh
          have HI := hide (And.intro hiv (And.intro hz0 (And.intro hz1 hz2)))
          have HS0 : Hid (W.drew.cell? ⟨go, 0, none⟩ = some (.slice so q sc) ∧ W.drew.cell? ⟨b8, 0, none⟩ = some (.string yk) ∧ W.drew.cell? ⟨b8, 1, none⟩ = some (.int .i64 yt0) ∧ W.drew.cell? ⟨b8, 2, none⟩ = some (.int .i64 yt1) ∧ W.drew.cell? ⟨b8, 3, none⟩ = some (.string yt2) ∧ W.drew.cell? ⟨b8, 4, none⟩ = some (.slice yt3 yt4 yt5) ∧ W.drew.cell? ⟨b8, 5, none⟩ = some (.slice yt6 yt7 yt8)) := hide ⟨by rw [cell_of_row _ go 0 _ _ (0, 0) (show W.drew.heap[go]? = _ from h1)]; rfl, by rw [cell_of_row _ b8 0 _ _ (0, 0) (show W.drew.heap[b8]? = _ from hb8)]; rfl, by rw [cell_of_row _ b8 1 _ _ (0, 0) (show W.drew.heap[b8]? = _ from hb8)]; rfl, by rw [cell_of_row _ b8 2 _ _ (0, 0) (show W.drew.heap[b8]? = _ from hb8)]; rfl, by rw [cell_of_row _ b8 3 _ _ (0, 0) (show W.drew.heap[b8]? = _ from hb8)]; rfl, by rw [cell_of_row _ b8 4 _ _ (0, 0) (show W.drew.heap[b8]? = _ from hb8)]; rfl, by rw [cell_of_row _ b8 5 _ _ (0, 0) (show W.drew.heap[b8]? = _ from hb8)]; rfl⟩
          have HEND : Hid (∀ (W4 W5 : World) (g5 cap5 : Nat) (c : Th5) , Below W.heap.size W W4 → IsQ W4 (fun b => W.heap.size ≤ b ∧ b < W4.heap.size) yv (.agg (th5 c).toArray) → W5.ownsRow lo 36 7 (.slice (some ⟨g5, 0, none⟩) (q + 1) cap5) (q + 1) (CS ++ (.string yk :: .bool false :: th5 c)) → W4.grownBy W5 (Value.slice so q sc).ownBlock → ((Value.slice so q sc).ownBlock = some g5 ∨ g5 = W4.heap.size) → KeepsFrom w7.heap.size W (W5.setCell ⟨go, 0, none⟩ (.slice (some ⟨g5, 0, none⟩) (q + 1) cap5)) ∧ KeepS (fun b => b < w7.heap.size ∧ b ≠ go) (fun T => T = 55) W (W5.setCell ⟨go, 0, none⟩ (.slice (some ⟨g5, 0, none⟩) (q + 1) cap5)) ∧ DfI w w7 (W5.setCell ⟨go, 0, none⟩ (.slice (some ⟨g5, 0, none⟩) (q + 1) cap5)) go es fs ((pre ++ [(⟨(some ii, some jj), hx⟩ : { x // x ∈ its })]).map Subtype.val)) := hide (by
            intro W4 W5 g5 cap5 c b4 q4 o5 g5' a5
            rw [← hlo, ← hCS] at o5
            rw [List.map_append, List.map_singleton]
            exact DfI.push h1 h2 h3 h4 h5 h6 hq (unhide HGW) hgw (unhide HCH) b4 q4 o5 g5' a5)
          clear h1 h2 h3 h4 h5 h6 hgol hbul hgw hgn hbn hiv hz0 hz1 hz2 hb7 hb8 hq hCS hlo
          clear hDb hv2 hrt2 HCI
          gi_wp2_with fail
          refine till_in (S := fun w' => w'.cell? ⟨go, 0, none⟩ = some (.slice so q sc) ∧ w'.cell? ⟨b8, 0, none⟩ = some (.string yk) ∧ w'.cell? ⟨b8, 1, none⟩ = some (.int .i64 yt0) ∧ w'.cell? ⟨b8, 2, none⟩ = some (.int .i64 yt1) ∧ w'.cell? ⟨b8, 3, none⟩ = some (.string yt2) ∧ w'.cell? ⟨b8, 4, none⟩ = some (.slice yt3 yt4 yt5) ∧ w'.cell? ⟨b8, 5, none⟩ = some (.slice yt6 yt7 yt8)) 12 (by kernel_rfl) ?nd3 ?nq3 ?_
          case nd3 =>
            intro i o ho c
            have : i < 13 := by
              have := (Array.getElem?_eq_some_iff.1 ho).1
              exact this
            rcases (show i = 0 ∨ i = 1 ∨ i = 2 ∨ i = 3 ∨ i = 4 ∨ i = 5 ∨ i = 6 ∨ i = 7 ∨ i = 8 ∨ i = 9 ∨ i = 10 ∨ i = 11 ∨ i = 12 by omega) with rfl | rfl | rfl | rfl | rfl | rfl | rfl | rfl | rfl | rfl | rfl | rfl | rfl <;> (cases ho; intro e; cases e)
          case nq3 =>
            rintro ⟨a, w, h⟩
            exact h
          refine till_take 0 (v := .slice so q sc) (some 46) rfl rfl rfl (by kernel_rfl) (by kernel_rfl) (by kernel_rfl) (by kernel_rfl) (fun _ _ _ h => h) (Or.inl ⟨by rfl, fun u hu => by obtain ⟨b0, b1, b2, b3, b4, b5, b6⟩ := hu; go_simp⟩) (unhide HS0) ?_
          try simp only [Act.put, List.setIfInBounds_toArray, List.set_cons_zero, List.set_cons_succ]
          refine till_take 1 (v := .pointer (some ⟨b8, 0, none⟩)) (some 47) rfl rfl rfl (by kernel_rfl) (by kernel_rfl) (by kernel_rfl) (by kernel_rfl) (fun _ _ _ h => h) (Or.inl ⟨by rfl, fun u hu => by obtain ⟨b0, b1, b2, b3, b4, b5, b6⟩ := hu; go_simp⟩) (unhide HS0) ?_
          try simp only [Act.put, List.setIfInBounds_toArray, List.set_cons_zero, List.set_cons_succ]
          refine till_take 2 (v := .pointer (some ⟨b8, 0, none⟩)) (some 48) rfl rfl rfl (by kernel_rfl) (by kernel_rfl) (by kernel_rfl) (by kernel_rfl) (fun _ _ _ h => h) (Or.inl ⟨by rfl, fun u hu => by obtain ⟨b0, b1, b2, b3, b4, b5, b6⟩ := hu; go_simp⟩) (unhide HS0) ?_
          try simp only [Act.put, List.setIfInBounds_toArray, List.set_cons_zero, List.set_cons_succ]
          refine till_take 3 (v := .string yk) (some 49) rfl rfl rfl (by kernel_rfl) (by kernel_rfl) (by kernel_rfl) (by kernel_rfl) (fun _ _ _ h => h) (Or.inl ⟨by rfl, fun u hu => by obtain ⟨b0, b1, b2, b3, b4, b5, b6⟩ := hu; go_simp⟩) (unhide HS0) ?_
          try simp only [Act.put, List.setIfInBounds_toArray, List.set_cons_zero, List.set_cons_succ]
          refine till_take 5 (v := .pointer (some ⟨b8, 0, none⟩)) (some 51) rfl rfl rfl (by kernel_rfl) (by kernel_rfl) (by kernel_rfl) (by kernel_rfl) (fun _ _ _ h => h) (Or.inl ⟨by rfl, fun u hu => by obtain ⟨b0, b1, b2, b3, b4, b5, b6⟩ := hu; go_simp⟩) (unhide HS0) ?_
          try simp only [Act.put, List.setIfInBounds_toArray, List.set_cons_zero, List.set_cons_succ]
          refine till_take 6 (v := .pointer (some ⟨b8, 1, none⟩)) (some 52) rfl rfl rfl (by kernel_rfl) (by kernel_rfl) (by kernel_rfl) (by kernel_rfl) (fun _ _ _ h => h) (Or.inl ⟨by rfl, fun u hu => by obtain ⟨b0, b1, b2, b3, b4, b5, b6⟩ := hu; go_simp⟩) (unhide HS0) ?_
          try simp only [Act.put, List.setIfInBounds_toArray, List.set_cons_zero, List.set_cons_succ]
          refine till_take 7 (v := .agg #[.int .i64 yt0, .int .i64 yt1, .string yt2, .slice yt3 yt4 yt5, .slice yt6 yt7 yt8]) (some 53) rfl rfl rfl (by kernel_rfl) (by kernel_rfl) (by kernel_rfl) (by kernel_rfl) (fun _ _ _ h => h) (Or.inl ⟨by rfl, fun u hu => by obtain ⟨b0, b1, b2, b3, b4, b5, b6⟩ := hu; go_simp⟩) (unhide HS0) ?_
          try simp only [Act.put, List.setIfInBounds_toArray, List.set_cons_zero, List.set_cons_succ]
          refine till_one 4 (by kernel_rfl) rfl (fun K hK => ?_)
          go_simp
          refine (unhide HCl W.drew).mono ?_
          rintro e W2 ⟨rfl, b2⟩
          have X2 : Below W.heap.size W W2 := below_drew_of' b2
          have HS2 : Hid (W2.cell? ⟨go, 0, none⟩ = some (.slice so q sc) ∧ W2.cell? ⟨b8, 0, none⟩ = some (.string yk) ∧ W2.cell? ⟨b8, 1, none⟩ = some (.int .i64 yt0) ∧ W2.cell? ⟨b8, 2, none⟩ = some (.int .i64 yt1) ∧ W2.cell? ⟨b8, 3, none⟩ = some (.string yt2) ∧ W2.cell? ⟨b8, 4, none⟩ = some (.slice yt3 yt4 yt5) ∧ W2.cell? ⟨b8, 5, none⟩ = some (.slice yt6 yt7 yt8)) := hide ⟨cell_later X2 ((unhide HS0).1), cell_later X2 ((unhide HS0).2.1), cell_later X2 ((unhide HS0).2.2.1), cell_later X2 ((unhide HS0).2.2.2.1), cell_later X2 ((unhide HS0).2.2.2.2.1), cell_later X2 ((unhide HS0).2.2.2.2.2.1), cell_later X2 ((unhide HS0).2.2.2.2.2.2)⟩
          have H2 := hide X2
          clear b2 X2
          go_wp2_with fail
          refine hK.out _ _ (Or.inr (unhide HS2)) ?_
          clear hK K HS0
          try simp only [Act.put, List.setIfInBounds_toArray, List.set_cons_zero, List.set_cons_succ]
          refine till_one 8 (by kernel_rfl) rfl (fun K hK => ?_)
          have CC := hide (unhide HCo W2 (unhide H2))
          go_simp
          refine (unhide CC).mono ?_
          rintro e W3 ⟨⟨d0, d1, d2, d3, d4, d5, d6, d7, d8⟩, rfl, b3, q3⟩
          dsimp only [th5] at q3 ⊢
          have HS3 : Hid (W3.cell? ⟨go, 0, none⟩ = some (.slice so q sc) ∧ W3.cell? ⟨b8, 0, none⟩ = some (.string yk) ∧ W3.cell? ⟨b8, 1, none⟩ = some (.int .i64 yt0) ∧ W3.cell? ⟨b8, 2, none⟩ = some (.int .i64 yt1) ∧ W3.cell? ⟨b8, 3, none⟩ = some (.string yt2) ∧ W3.cell? ⟨b8, 4, none⟩ = some (.slice yt3 yt4 yt5) ∧ W3.cell? ⟨b8, 5, none⟩ = some (.slice yt6 yt7 yt8)) := hide ⟨cell_later b3 ((unhide HS2).1), cell_later b3 ((unhide HS2).2.1), cell_later b3 ((unhide HS2).2.2.1), cell_later b3 ((unhide HS2).2.2.2.1), cell_later b3 ((unhide HS2).2.2.2.2.1), cell_later b3 ((unhide HS2).2.2.2.2.2.1), cell_later b3 ((unhide HS2).2.2.2.2.2.2)⟩
          have H3 := hide (And.intro ((unhide H2).trans (b3.mono (unhide H2).size)) (q3.weak (Q := fun b => W.heap.size ≤ b ∧ b < W3.heap.size) (fun b hb => ⟨by have := hb.1; have := (unhide H2).size; omega, hb.2⟩)))
          clear b3 q3 CC
          go_wp2_with fail
          refine hK.out _ _ (Or.inr (unhide HS3)) ?_
          clear hK K HS2
          try simp only [Act.put, List.setIfInBounds_toArray, List.set_cons_zero, List.set_cons_succ]
          refine till_one 9 (by kernel_rfl) rfl (fun K hK => ?_)
          obtain ⟨b0, b1, b2, b3, b4, b5, b6⟩ := unhide HS3
          go_simp
          refine hK.out _ _ (Or.inr (unhide HS3)) ?_
          clear hK K b0 b1 b2 b3 b4 b5 b6
          try simp only [Act.put, List.setIfInBounds_toArray, List.set_cons_zero, List.set_cons_succ]
          refine till_one 10 (by kernel_rfl) rfl (fun K hK => ?_)
          go_simp
          obtain ⟨W4, hW4⟩ : ∃ W4, W3.alloc (.cells #[.string yk, .bool false, .int .i64 d0, .int .i64 d1, .string d2, .slice d3 d4 d5, .slice d6 d7 d8] 36) = W4 := ⟨_, rfl⟩
          have X4 : Below W3.heap.size W3 W4 := by rw [← hW4]; exact (Below.refl _ _).alloc (Nat.le_refl _) _
          have at4 : W4.heap[W3.heap.size]? = some (.cells #[.string yk, .bool false, .int .i64 d0, .int .i64 d1, .string d2, .slice d3 d4 d5, .slice d6 d7 d8] 36 (0, 0)) := by rw [← hW4]; exact heap_alloc_new W3 _
          rw [hW4]
          have HS4 : Hid (W4.cell? ⟨go, 0, none⟩ = some (.slice so q sc) ∧ W4.cell? ⟨b8, 0, none⟩ = some (.string yk) ∧ W4.cell? ⟨b8, 1, none⟩ = some (.int .i64 yt0) ∧ W4.cell? ⟨b8, 2, none⟩ = some (.int .i64 yt1) ∧ W4.cell? ⟨b8, 3, none⟩ = some (.string yt2) ∧ W4.cell? ⟨b8, 4, none⟩ = some (.slice yt3 yt4 yt5) ∧ W4.cell? ⟨b8, 5, none⟩ = some (.slice yt6 yt7 yt8)) := hide ⟨cell_later X4 ((unhide HS3).1), cell_later X4 ((unhide HS3).2.1), cell_later X4 ((unhide HS3).2.2.1), cell_later X4 ((unhide HS3).2.2.2.1), cell_later X4 ((unhide HS3).2.2.2.2.1), cell_later X4 ((unhide HS3).2.2.2.2.2.1), cell_later X4 ((unhide HS3).2.2.2.2.2.2)⟩
          have H4 : Hid (Below W.heap.size W W4 ∧ IsQ W4 (fun b => W.heap.size ≤ b ∧ b < W4.heap.size) yv (.agg #[.int .i64 d0, .int .i64 d1, .string d2, .slice d3 d4 d5, .slice d6 d7 d8])) := hide ⟨(unhide H3).1.trans (X4.mono (unhide H3).1.size), ((unhide H3).2.move (fun b hb => X4.block b hb.2)).weak (fun b hb => ⟨hb.1, Nat.lt_of_lt_of_le hb.2 X4.size⟩)⟩
          obtain ⟨h3s, hh3s⟩ : ∃ h3s, W3.heap.size = h3s := ⟨_, rfl⟩
          rw [hh3s] at at4 ⊢
          refine hK.out _ _ (Or.inr (unhide HS4)) ?_
          clear hK K hW4 X4 hh3s HS3 H3 H2
          try simp only [Act.put, List.setIfInBounds_toArray, List.set_cons_zero, List.set_cons_succ]
          refine till_one 11 (by kernel_rfl) rfl (fun K hK => ?_)
          refine step_append_lies _ (by rfl) _ _ 25 (by rfl) lo 36 iv (.agg #[.string ⟨#[]⟩, .bool false, .int .i64 0, .int .i64 0, .string ⟨#[]⟩, .slice none 0 0, .slice none 0 0]) 7 104 Try.underlying25 (unhide HI).1 (unhide HI).2.1 (unhide HI).2.2.1 (unhide HI).2.2.2 rfl (by omega) (.slice so q sc) q CS (by rfl) (unhide HOW W4 (unhide H4).1) ⟨h3s, 0, none⟩ 1 1 [.string yk, .bool false, .int .i64 d0, .int .i64 d1, .string d2, .slice d3 d4 d5, .slice d6 d7 d8] (by rfl) (by rfl) (World.news_of_block at4) (by simp [Value.oneCell']) (by omega) (by unfold maxLen; omega) (by omega) (Nat.le_trans hloW (unhide H4).1.size) _ rfl ?_
          intro g5 cap5 W5 hown5 hgrow5 hat5 hlt5
          change K (Act.put _ (some 57) _) W5
          have cz5 : W5.cell? ⟨go, 0, none⟩ = some (.slice so q sc) := (hgrow5.cell_far ⟨go, 0, none⟩ (Nat.lt_of_lt_of_le (unhide HGO).1 (unhide H4).1.size) (unhide HGO).2.1).trans ((unhide HS4).1)
          have HS5 : Hid (W5.cell? ⟨go, 0, none⟩ = some (.slice so q sc) ∧ W5.cell? ⟨b8, 0, none⟩ = some (.string yk) ∧ W5.cell? ⟨b8, 1, none⟩ = some (.int .i64 yt0) ∧ W5.cell? ⟨b8, 2, none⟩ = some (.int .i64 yt1) ∧ W5.cell? ⟨b8, 3, none⟩ = some (.string yt2) ∧ W5.cell? ⟨b8, 4, none⟩ = some (.slice yt3 yt4 yt5) ∧ W5.cell? ⟨b8, 5, none⟩ = some (.slice yt6 yt7 yt8)) := hide ⟨cz5, (hgrow5.cell_far ⟨b8, 0, none⟩ (Nat.lt_of_lt_of_le (unhide HGO).2.2.1 (unhide H4).1.size) (unhide HGO).2.2.2.1).trans ((unhide HS4).2.1), (hgrow5.cell_far ⟨b8, 1, none⟩ (Nat.lt_of_lt_of_le (unhide HGO).2.2.1 (unhide H4).1.size) (unhide HGO).2.2.2.1).trans ((unhide HS4).2.2.1), (hgrow5.cell_far ⟨b8, 2, none⟩ (Nat.lt_of_lt_of_le (unhide HGO).2.2.1 (unhide H4).1.size) (unhide HGO).2.2.2.1).trans ((unhide HS4).2.2.2.1), (hgrow5.cell_far ⟨b8, 3, none⟩ (Nat.lt_of_lt_of_le (unhide HGO).2.2.1 (unhide H4).1.size) (unhide HGO).2.2.2.1).trans ((unhide HS4).2.2.2.2.1), (hgrow5.cell_far ⟨b8, 4, none⟩ (Nat.lt_of_lt_of_le (unhide HGO).2.2.1 (unhide H4).1.size) (unhide HGO).2.2.2.1).trans ((unhide HS4).2.2.2.2.2.1), (hgrow5.cell_far ⟨b8, 5, none⟩ (Nat.lt_of_lt_of_le (unhide HGO).2.2.1 (unhide H4).1.size) (unhide HGO).2.2.2.1).trans ((unhide HS4).2.2.2.2.2.2)⟩
          have f5 : W5.frozen? ⟨go, 0, none⟩ = false := (hgrow5.frozen_far ⟨go, 0, none⟩ (Nat.lt_of_lt_of_le (unhide HGO).1 (unhide H4).1.size) (unhide HGO).2.1).trans ((unhide HGO).2.2.2.2 W4 (unhide H4).1)
          have H5 := hide (And.intro hown5 (And.intro hgrow5 hat5))
          refine hK.out _ _ (Or.inr (unhide HS5)) ?_
          clear hK K hown5 hgrow5 hat5 hlt5 HS4 cz5
          try simp only [Act.put, List.setIfInBounds_toArray, List.set_cons_zero, List.set_cons_succ]
          refine till_one 12 (by kernel_rfl) rfl (fun K hK => ?_)
          obtain ⟨b0, b1, b2, b3, b4, b5, b6⟩ := unhide HS5
          go_simp
          refine hK.out _ _ (Or.inl (by first | rfl | trivial)) ?_
          clear hK K b0 b1 b2 b3 b4 b5 b6 f5
          try simp only [Act.put, List.setIfInBounds_toArray, List.set_cons_zero, List.set_cons_succ]
          refine till_done (by kernel_rfl) ?_ _
          have RR := unhide HEND W4 W5 g5 cap5 (d0, d1, d2, d3, d4, d5, d6, d7, d8) (unhide H4).1 (unhide H4).2 (unhide H5).1 (unhide H5).2.1 (unhide H5).2.2
          exact ⟨(unhide HKV).1.trans RR.1, (unhide HKV).2.trans RR.2.1, RR.2.2⟩
  case done =>
    rintro D ys W hD rfl hI hK
    obtain ⟨⟨sv, cs, h1, h2, h3, h4⟩, h5, h6⟩ := hI
    have hg : W.grownBy (W.putObj D (.deferred none)) (some D) := grownBy_putObj' _ _ _
    have hne : ∀ b, isC W b → some b ≠ some D := fun b hb e => by
      cases e
      obtain ⟨c, T, f, hh⟩ := hb
      rw [hh] at hK
      cases hK
    have f1 := h2.to (w' := W.putObj D (.deferred none)) (lo' := w.heap.size) (unhide H7).1.size hg.size (fun b _ hl hc => hg.block b hl (hne b hc))
    have f2 : Below w.heap.size w (W.putObj D (.deferred none)) := h5.grown hg (by have := h5.size; omega) (fun k hk => by cases hk; have := (unhide H7).1.size; omega)
    rw [List.attach_map_subtype_val] at h3
    have c0 : W.cell? ⟨go, 0, none⟩ = some sv := by rw [cell_of_row W go 0 _ _ (0, 0) h1]; rfl
    have hsv : sv.oneCell' = true := by
      rcases h2.row.2 with ⟨rfl, _⟩ | ⟨b, cap, cur, rfl, _⟩ <;> rfl
    have HF := hide (And.intro h3 (And.intro f1 f2))
    clear h1 h2 h3 h4 h5 h6 hg hne f1 f2
    go_wp2_with fail
    refine ⟨by simp, .inl ⟨_, _, rfl, run_takeDeferred hK, ?_⟩⟩
    obtain ⟨h3, f1, f2⟩ := unhide HF
    exact ⟨_, results_tmp2 rfl _ _ _, sv, cs, rfl, f1, h3, f2⟩
  case stop =>
    rintro D c pre W _ _ h _
    exact h.elim

set_option maxRecDepth 100000 in
set_option maxHeartbeats 1000000 in
theorem diffE_any (es fs : List En) (al bl : Option Addr) (n cl m ck B : Nat) (w : World) (hn : es.length = n) (hm : fs.length = m) (h : IsE w (fun b => b < B) es al cl) (h' : IsE w (fun b => b < B) fs bl ck) (hB : B ≤ w.heap.size) :
    Calls Try.prog 8 #[.slice al n cl, .slice bl m ck] w fun e w' => ∃ sv cs, e = .returned (.tuple #[sv, .int .i64 (codeD es fs)]) ∧ ChO w' w.heap.size sv cs ∧ cs.map chOf = diffL es fs ∧ Below w.heap.size w w' := by
  have CR := hide (rightE_any es al n cl B w hn h hB)
  cases hR : rightE es with
  | false =>
    have e1 : codeD es fs = 70 := by unfold codeD diffB; rw [hR]; rfl
    have e2 : diffL es fs = [] := by unfold diffL diffB; rw [hR]; rfl
    rw [hR] at CR
    rw [e1, e2]
    clear h h' hR e1 e2
    go_enter Try.func8, Try.ntmps8
    go_wp2_with fail
    refine (unhide CR).mono ?_
    rintro e u ⟨rfl, b1⟩
    have B1 := hide b1
    clear b1 CR
    go_wp2_with fail
    go_ret2
    exact ⟨_, [], rfl, ChO.nil _ _, rfl, unhide B1⟩
  | true =>
    rw [hR] at CR
    cases hR' : rightE fs with
    | true =>
      have e1 : codeD es fs = 0 := by unfold codeD diffB; rw [hR, hR']; rfl
      have e2 : diffL es fs = (sdN (keysE es) (keysE fs) (n + m) 0 0).flatMap (chI es fs) := by unfold diffL diffB; rw [hR, hR', hn, hm]; rfl
      rw [e1, e2]
      exact diffE_right es fs al bl n cl m ck B w hn hm h h' hB hR hR'
    | false =>
      have e1 : codeD es fs = 70 := by unfold codeD diffB; rw [hR, hR']; rfl
      have e2 : diffL es fs = [] := by unfold diffL diffB; rw [hR, hR']; rfl
      have CR' : Hid (∀ u, Below w.heap.size w u → Calls Try.prog 20 #[.slice bl m ck] u fun e w' => e = .returned (.bool false) ∧ Below u.heap.size u w') := hide (fun u hu => by
        have := rightE_any fs bl m ck B u hm (h'.later (hu.mono hB)) (Nat.le_trans hB hu.size)
        rw [hR'] at this
        exact this)
      rw [e1, e2]
      clear h h' hR hR' e1 e2
      go_enter Try.func8, Try.ntmps8
      go_wp2_with fail
      refine (unhide CR).mono ?_
      rintro e u ⟨rfl, b1⟩
      have B1 := hide b1
      have C2 := hide (unhide CR' u b1)
      clear b1 CR CR'
      go_wp2_with fail
      refine (unhide C2).mono ?_
      rintro e u2 ⟨rfl, b2⟩
      have B2 : Hid (Below w.heap.size w u2) := hide ((unhide B1).trans (b2.mono (unhide B1).size))
      clear b2 C2 B1
      go_wp2_with fail
      go_ret2
      exact ⟨_, [], rfl, ChO.nil _ _, rfl, unhide B2⟩
end Go.Proofs.Ytjhnbopejnpbeaa
