/-
  Layer 12, the document's own function: heights by instructions, or the first fault; conditions: the form's own reach.
-/
import Derived.Test.YtcknoeepdjhnoaaGreatDoorH41
import Derived.BigQuiet
import Derived.Deep.QuietTactic
set_option linter.unusedVariables false
set_option linter.unusedSimpArgs false
namespace Go.Proofs.YtcknoeepdjhnoaaGreatDoor
open Go.RowKit
set_option linter.unusedVariables false
set_option linter.unusedSimpArgs false

theorem HV_succ (L : Nat) : HV ([], []) (L + 1) = HV ([], []) L ++ [.int .i64 (-1)] := by
  unfold HV
  rw [List.range_succ, List.map_append]
  rfl
theorem WV_succ (L : Nat) : WV ([], []) (L + 1) = WV ([], []) L ++ [.bool false] := by
  unfold WV
  rw [List.range_succ, List.map_append]
  congr 1

theorem set67 {w : World} {g : Nat} {x : Kv} {hv wv : Value} {lw : Int} (h : w.heap[g]? = some (.cells (x.cells hv wv lw) 71 (0, 0))) (v : Value) : (w.setCell ⟨g, 6, none⟩ v).heap[g]? = some (.cells (x.cells v wv lw) 71 (0, 0)) ∧ (w.setCell ⟨g, 7, none⟩ v).heap[g]? = some (.cells (x.cells hv v lw) 71 (0, 0)) := by
  have e0 := heap_setCell_same w g 6 _ 71 v h
  have e1 := heap_setCell_same w g 7 _ 71 v h
  exact ⟨by simpa only [Kv.cells, List.setIfInBounds_toArray, List.set_cons_zero, List.set_cons_succ] using e0, by simpa only [Kv.cells, List.setIfInBounds_toArray, List.set_cons_zero, List.set_cons_succ] using e1⟩

/-- a look whose rows grow -/
structure GrK (w5 u : World) (B g : Nat) (X : Kv) (m : Md) (fn : Fn) (ps : List Int) (i : Nat) (hv wv : Value) : Prop where
  see : SeeK u B g X m fn ps hv wv 0
  oh : u.ownsRow (g + 1) 3 1 hv i (HV ([], []) i)
  ow : u.ownsRow (g + 1) 4 1 wv i (WV ([], []) i)
  bel : Below g w5 u

theorem GrK.growH {w5 u v : World} {B g : Nat} {X : Kv} {m : Md} {fn : Fn} {ps : List Int} {i : Nat} {hv wv hv' : Value} (h : GrK w5 u B g X m fn ps i hv wv) (bg : B ≤ g) (pg : ∀ a, X.ap = some a → a.block < g) (o : v.ownsRow (g + 1) 3 1 hv' (i + 1) (HV ([], []) i ++ [.int .i64 (-1)])) (hg : u.grownBy v hv.ownBlock) :
    v.heap[g]? = some (.cells (X.cells hv wv 0) 71 (0, 0)) ∧ SeeK (v.setCell ⟨g, 6, none⟩ hv') B g X m fn ps hv' wv 0 ∧ (v.setCell ⟨g, 6, none⟩ hv').ownsRow (g + 1) 3 1 hv' (i + 1) (HV ([], []) (i + 1)) ∧ (v.setCell ⟨g, 6, none⟩ hv').ownsRow (g + 1) 4 1 wv i (WV ([], []) i) ∧ Below g w5 (v.setCell ⟨g, 6, none⟩ hv') := by
  have hgl : g < u.heap.size := (Array.getElem?_eq_some_iff.1 h.see.box).1
  have hne : some g ≠ hv.ownBlock := fun e => by have := (h.oh.lt g e.symm).1; omega
  have bx : v.heap[g]? = some (.cells (X.cells hv wv 0) 71 (0, 0)) := (hg.block g hgl hne).trans h.see.box
  have b1 : Below g u v := (Below.refl _ _).grown hg (by omega) (fun k e => by have := (h.oh.lt k e).1; omega)
  have b2 : Below g u (v.setCell ⟨g, 6, none⟩ hv') := b1.setCell (p := ⟨g, 6, none⟩) (Nat.le_refl _) _
  have ow := h.ow.kept hg (own_apart h.ow h.oh (by decide))
  refine ⟨bx, h.see.keep b2 bg pg (set67 bx _).1, ?_, ?_, h.bel.trans b2⟩
  · rw [HV_succ]
    exact own_later o (fun b hl hb => heap_setCell_other _ _ _ _ (fun e => by have := (o.lt b hb).1; have e2 : b = g := e; omega))
  · exact own_later ow (fun b hl hb => heap_setCell_other _ _ _ _ (fun e => by have := (ow.lt b hb).1; have e2 : b = g := e; omega))

theorem growW {w5 u v : World} {B g : Nat} {X : Kv} {m : Md} {fn : Fn} {ps : List Int} {i : Nat} {hv wv wv' : Value} (hs : SeeK u B g X m fn ps hv wv 0) (oh : u.ownsRow (g + 1) 3 1 hv (i + 1) (HV ([], []) (i + 1))) (ow : u.ownsRow (g + 1) 4 1 wv i (WV ([], []) i)) (bel : Below g w5 u) (bg : B ≤ g) (pg : ∀ a, X.ap = some a → a.block < g) (o : v.ownsRow (g + 1) 4 1 wv' (i + 1) (WV ([], []) i ++ [.bool false])) (hg : u.grownBy v wv.ownBlock) :
    v.heap[g]? = some (.cells (X.cells hv wv 0) 71 (0, 0)) ∧ GrK w5 (v.setCell ⟨g, 7, none⟩ wv') B g X m fn ps (i + 1) hv wv' := by
  have hgl : g < u.heap.size := (Array.getElem?_eq_some_iff.1 hs.box).1
  have hne : some g ≠ wv.ownBlock := fun e => by have := (ow.lt g e.symm).1; omega
  have bx : v.heap[g]? = some (.cells (X.cells hv wv 0) 71 (0, 0)) := (hg.block g hgl hne).trans hs.box
  have b1 : Below g u v := (Below.refl _ _).grown hg (by omega) (fun k e => by have := (ow.lt k e).1; omega)
  have b2 : Below g u (v.setCell ⟨g, 7, none⟩ wv') := b1.setCell (p := ⟨g, 7, none⟩) (Nat.le_refl _) _
  have oh' := oh.kept hg (own_apart oh ow (by decide))
  refine ⟨bx, hs.keep b2 bg pg (set67 bx _).2, ?_, ?_, bel.trans b2⟩
  · exact own_later oh' (fun b hl hb => heap_setCell_other _ _ _ _ (fun e => by have := (oh'.lt b hb).1; have e2 : b = g := e; omega))
  · rw [WV_succ]
    exact own_later o (fun b hl hb => heap_setCell_other _ _ _ _ (fun e => by have := (o.lt b hb).1; have e2 : b = g := e; omega))

/-- what the document's function answers -/
def FunR (w w' : World) (m : Md) (f : Nat) (e : Ending) : Prop :=
  ∃ ao, (∃ cap, e = .returned (.tuple #[.slice ao (htsF m f).length cap, .agg (fltV (fltF m f))]) ∧ w'.ownsRow w.heap.size 3 1 (.slice ao (htsF m f).length cap) (htsF m f).length ((htsF m f).map (Value.int .i64))) ∧ Below w.heap.size w w'

theorem opsE_at (m : Md) (lo : Int) (ps : List Int) : ∀ (k : Nat) (ls : List Ins) (qs : List Int) (i : Ins) (q : Int), ls[k]? = some i → qs[k]? = some q → opsE m lo ps (ls.drop k) (qs.drop k) = if opE m lo ps i = 0 then opsE m lo ps (ls.drop (k + 1)) (qs.drop (k + 1)) else (q, opE m lo ps i)
  | 0, [], _, _, _, h, _ => by simp at h
  | 0, _ :: _, [], _, _, _, h => by simp at h
  | 0, a :: r, c :: t, i, q, h1, h2 => by
    simp only [List.getElem?_cons_zero, Option.some.injEq] at h1 h2
    subst h1 h2
    rfl
  | k + 1, [], _, _, _, h, _ => by simp at h
  | k + 1, _ :: _, [], _, _, _, h => by simp at h
  | k + 1, a :: r, c :: t, i, q, h1, h2 => by
    simp only [List.getElem?_cons_succ] at h1 h2
    simpa using opsE_at m lo ps k r t i q h1 h2

set_option maxRecDepth 100000 in
set_option maxHeartbeats 16000000 in
theorem functionK_any (m : Md) (b1 : Option Addr) (n1 d1 : Nat) (b2 : Option Addr) (n2 d2 : Nat) (b3 : Option Addr) (n3 d3 : Nat) (B f : Nat) (p l s : Int) (tt : ByteArray) (w : World)
    (hM : IsM w (fun b => b < B) m b1 d1 b2 d2 b3 d3) (hB : B ≤ w.heap.size) (hn1 : m.cs.length = n1) (hn2 : m.fs.length = n2) (hfn : m.fs[f]? = some (p, l, s, tt)) (hfs : ∀ f ∈ m.fs, fnB f = true) :
    Calls Tryz.prog 16 #[.agg #[.slice b1 n1 d1, .slice b2 n2 d2, .slice b3 n3 d3], .int .i64 (f : Int)] w fun e w' => FunR w w' m f e := by
  have hcb := hM.cbl
  have hfb := hfs _ (List.mem_of_getElem? hfn)
  have htz : tt.size ≤ 4000 := (fnB_parts hfb).2.2.2.2
  obtain ⟨ad, rfl, hab, hts, f0, f1, f2, f3⟩ := hM.func f p l s tt hfn
  obtain ⟨G, hG⟩ : ∃ G, w.heap.size = G := ⟨_, rfl⟩
  obtain ⟨w1, hw1⟩ : ∃ w1, w.alloc (.cells #[.slice b1 n1 d1, .slice (some ad) n2 d2, .slice b3 n3 d3] 27) = w1 := ⟨_, rfl⟩
  have z1 : w1.heap.size = G + 1 := by rw [← hw1, ← hG]; simp
  have A1 : w1.heap[G]? = some (.cells #[.slice b1 n1 d1, .slice (some ad) n2 d2, .slice b3 n3 d3] 27 (0, 0)) := by rw [← hw1, ← hG]; exact heap_alloc_new _ _
  have B1 : Below w.heap.size w w1 := by rw [← hw1]; exact (Below.refl _ _).alloc (Nat.le_refl _) _
  obtain ⟨w2, hw2⟩ : ∃ w2, w1.alloc (.cells #[.int .i64 0, .int .i64 0, .int .i64 0] 31) = w2 := ⟨_, rfl⟩
  have z2 : w2.heap.size = G + 2 := by rw [← hw2]; simp; omega
  have A2 : w2.heap[G + 1]? = some (.cells #[.int .i64 0, .int .i64 0, .int .i64 0] 31 (0, 0)) := by rw [← hw2, ← z1]; exact heap_alloc_new _ _
  have B2 : Below w1.heap.size w1 w2 := by rw [← hw2]; exact (Below.refl _ _).alloc (Nat.le_refl _) _
  have BW : Below w.heap.size w w2 := B1.trans (B2.mono B1.size)
  have A1' : w2.heap[G]? = some (.cells #[.slice b1 n1 d1, .slice (some ad) n2 d2, .slice b3 n3 d3] 27 (0, 0)) := (B2.block G (by omega)).trans A1
  obtain ⟨c0, c1, c2⟩ := row_cell3 A1'
  have f3 := cell_ne f3 (BW.block _ (cell_lt f3))
  have hfl : (f : Int) < (n2 : Int) := by have := (List.getElem?_eq_some_iff.1 hfn).1; omega
  have hn2b : n2 ≤ 140737488351232 := by have := hM.len.2.1; omega
  obtain ⟨⟨ls, ps, la, le⟩, hr⟩ : ∃ r, lsF tt = r := ⟨_, rfl⟩
  obtain ⟨nl, hnl⟩ : ∃ n, ls.length = n := ⟨_, rfl⟩
  obtain ⟨np, hnp⟩ : ∃ n, ps.length = n := ⟨_, rfl⟩
  have hnp4 : np ≤ 4000 := by
    have := lst_le (zsT tt) (zsT tt).length 0
    have e : (lst (zsT tt) (zsT tt).length 0) = (ls, ps, la, le) := hr
    rw [e, zsT_len] at this
    simp only [] at this
    omega
  have CLs : Hid (∀ (u : World) (cap : Nat), FreshT w2 u tt cap → Calls Tryz.prog 25 #[.slice (some ⟨w2.heap.size, 0, none⟩) tt.size cap] u fun e w' => ∃ al cl ap cp, e = .returned (.tuple #[.slice al nl cl, .slice ap np cp, .int .i64 la, .int .i64 le]) ∧ Listed u w' (ls, ps, la, le) al cl ap cp) := hide (fun u cap hu => by
    have hc := cntI_le (zsT tt) tt.size 0
    have := rlist_any (some ⟨w2.heap.size, 0, none⟩) tt.size cap (zsT tt) u hu.row hu.cap (by omega)
    have e : lst (zsT tt) tt.size 0 = (ls, ps, la, le) := by rw [← hr]; unfold lsF; rw [zsT_len]
    rw [e] at this
    simp only [hnl, hnp] at this
    exact this)
  obtain ⟨RL, hRL⟩ : ∃ RL, htsF m f = RL := ⟨_, rfl⟩
  obtain ⟨RF, hRF⟩ : ∃ RF, fltF m f = RF := ⟨_, rfl⟩
  unfold FunR
  rw [hRL, hRF]
  have hgd : m.fs.getD f fn0 = (p, l, s, tt) := getD_of hfn
  have HBAD : Hid (∀ H a e, lookF m (p, l, s, tt) = (H, a, e) → ¬ e = 0 → RL = [] ∧ RF = (e, (f : Int), a)) := hide (fun H a e h1 h2 => by
    rw [← hRL, ← hRF]
    unfold htsF fltF
    rw [hgd, h1]
    exact ⟨if_neg h2, if_neg h2⟩)
  have HGOOD : Hid (∀ H a, lookF m (p, l, s, tt) = (H, a, 0) → RL = ps.map (fun p => (H.lookup p).getD (-1)) ∧ RF = (0, 0, 0)) := hide (fun H a h1 => by
    rw [← hRL, ← hRF]
    unfold htsF fltF
    rw [hgd, h1]
    simp only [hr]
    exact ⟨if_pos trivial, if_pos trivial⟩)
  have hlk : lookF m (p, l, s, tt) = if le = 0 then (if ls = [] then ([], 0, 127) else if (opsE m l ps ls ps).2 = 0 then wlk (boF m (p, l, s, tt)) ps.length 0 ([(0, 0)], [0]) else ([], (opsE m l ps ls ps).1, (opsE m l ps ls ps).2)) else ([], la, 121) := by
    unfold lookF
    simp only [hr]
  have HLK := hide hlk
  have HMM := hide (And.intro hM (And.intro hB (And.intro hn1 (And.intro hn2 (And.intro hfn (And.intro hfs (And.intro hcb (And.intro hfb hr))))))))
  have HNN := hide (And.intro hnl hnp)
  have HZ := hide (And.intro True.intro z2)
  have HW2 := hide (And.intro A1' (And.intro A2 BW))
  clear hM hfn hfs hcb hfb hlk hgd hRL hRF hr z2 A1 A2 B1 B2 BW A1' hab f0 f1 f2 hnl hnp hn1 hn2 hB
  have tok1 : True := trivial
  go_enter Tryz.func16, Tryz.ntmps16
  go_wp2_with (first | (have _t := tok1; refine wpl_bytesT rfl 9 59 5 (.tmp 22) rfl tt rfl (by omega) Tryz.underlying9 Tryz.underlying59 Tryz.underlying5 ?_; clear tok1; intro w3 cap3 H3))
  refine (unhide CLs w3 cap3 (unhide H3)).mono ?_
  rintro e w4 ⟨al, cl, ap, cp, rfl, HLd⟩
  have X4 : Below w2.heap.size w2 w4 := (unhide H3).below.trans (HLd.below.mono (unhide H3).below.size)
  have hz2 := (unhide HZ).2
  have s4 := X4.size
  have M4 := (X4.block G (by omega)).trans (unhide HW2).1
  have F4 : Hid (w4.heap[G + 1]? = some (.cells #[.int .i64 0, .int .i64 0, .int .i64 0] 31 (0, 0))) := hide ((X4.block _ (by omega)).trans (unhide HW2).2.1)
  have Y4 : Hid (Below w.heap.size w w4) := hide ((unhide HW2).2.2.trans (X4.mono (unhide HW2).2.2.size))
  have hgG : G + 2 ≤ w4.heap.size := by omega
  have HLN : Hid (RdN w4 al ls ∧ RdI w4 ap ps ∧ ∀ a, ap = some a → a.block < w4.heap.size) := hide ⟨own_rdN HLd.ins, own_rdI HLd.pls, fun a ha => by
    subst ha
    exact (HLd.pls.lt a.block rfl).2⟩
  clear hz2 s4
  obtain ⟨m0, m1, m2⟩ := row_cell3 M4
  clear X4 HLd CLs c0 c1 c2 f3 M4 HW2
  go_upto_region 4 with fail
  obtain ⟨g, hg⟩ : ∃ g, w4.heap.size = g := ⟨_, rfl⟩
  obtain ⟨w5, hw5⟩ : ∃ w5, w4.alloc (.cells #[.slice b1 n1 d1, .slice (some ad) n2 d2, .slice b3 n3 d3, .int .i64 (f : Int), .slice al nl cl, .slice ap np cp, .slice none 0 0, .slice none 0 0, .int .i64 0] 71) = w5 := ⟨_, rfl⟩
  obtain ⟨X, hX⟩ : ∃ X : Kv, X = ⟨b1, n1, d1, some ad, n2, d2, b3, n3, d3, f, al, nl, cl, ap, np, cp⟩ := ⟨_, rfl⟩
  rw [hw5]
  rw [hg]
  have A5 : w5.heap[g]? = some (.cells (X.cells (.slice none 0 0) (.slice none 0 0) 0) 71 (0, 0)) := by rw [hX, ← hw5, ← hg]; exact heap_alloc_new _ _
  have B5 : Below w4.heap.size w4 w5 := by rw [← hw5]; exact (Below.refl _ _).alloc (Nat.le_refl _) _
  have Y5 : Below w.heap.size w w5 := (unhide Y4).trans (B5.mono (unhide Y4).size)
  have hXf : X.f = f := by rw [hX]
  have hBg : B ≤ g := by have := (unhide HMM).2.1; have := (unhide Y4).size; omega
  have hpg : ∀ a, X.ap = some a → a.block < g := by rw [hX, ← hg]; exact (unhide HLN).2.2
  have S5 : SeeK w5 B g X m (p, l, s, tt) ps (.slice none 0 0) (.slice none 0 0) 0 := by
    obtain ⟨hM, hB, hn1, hn2, hfn, hfs, hcb, hfb, hr⟩ := unhide HMM
    have hm5 := hM.later (Y5.mono hB)
    have hp5 := (unhide HLN).2.1.later B5
    refine ⟨A5, ?_, ?_, ?_, ?_, by have := Y5.size; omega, ?_, ?_, ?_⟩
    · rw [hX]; exact hn1
    · rw [hX]; exact hn2
    · rw [hX]; exact hfn
    · rw [hX]; exact hm5
    · rw [hX]; exact (unhide HNN).2
    · rw [hX]; exact hnp4
    · rw [hX]; exact hp5
  have hg2 : G + 2 ≤ g := by omega
  have sz5 : g < w5.heap.size := (Array.getElem?_eq_some_iff.1 A5).1
  have KP : Hid (∀ u, Below w5.heap.size w5 u → SeeK u B g X m (p, l, s, tt) ps (.slice none 0 0) (.slice none 0 0) 0 ∧ RdN u al ls ∧ RdI u ap ps ∧ u.heap[G + 1]? = some (.cells #[.int .i64 0, .int .i64 0, .int .i64 0] 31 (0, 0)) ∧ Below w.heap.size w u) := hide (fun u hu => by
    have hb4 : Below w4.heap.size w4 u := B5.trans (hu.mono B5.size)
    exact ⟨S5.later hu, fun j q hj => by
      obtain ⟨a, ha, h1, h2⟩ := (unhide HLN).1 j q hj
      exact ⟨a, ha, cell_up hb4 h1, cell_up hb4 h2⟩, (unhide HLN).2.1.later hb4, (hb4.block _ (by omega)).trans (unhide F4), Y5.trans (hu.mono Y5.size)⟩)
  have CF : Hid (∀ (u : World) (hv wv : Value) (lw : Int), SeeK u B g X m (p, l, s, tt) ps hv wv lw → ∀ e0 at0 : Int, Calls Tryz.prog 26 #[.pointer (some ⟨g, 0, none⟩), .int .i64 e0, .int .i64 at0] u fun e w' => e = .returned (.agg #[.int .i64 e0, .int .i64 (f : Int), .int .i64 at0]) ∧ Below u.heap.size u w') := hide (fun u hv wv lw h e0 at0 => by
    have := faultK_any h e0 at0
    rw [hXf] at this
    exact this)
  have HPG := hide (And.intro hBg (And.intro hpg hX))
  clear A5 B5 Y5 S5 hX hBg hpg hXf hw5 m0 m1 m2 HLN F4 Y4 hg hgG
  by_cases hle : le = 0
  · subst hle
    by_cases hz : tt.size = 0
    · have hls : ls = [] := by
        have hr := (unhide HMM).2.2.2.2.2.2.2.2
        have hl : (zsT tt).length = 0 := by rw [zsT_len]; exact hz
        unfold lsF at hr
        rw [hl] at hr
        cases hr
        rfl
      have HE : Hid (RL = [] ∧ RF = (127, (f : Int), 0)) := hide (unhide HBAD _ _ _ (by rw [unhide HLK, if_pos rfl, if_pos hls]) (by decide))
      have FX : Hid (w5.heap[G + 1]? = some (.cells #[.int .i64 0, .int .i64 0, .int .i64 0] 31 (0, 0))) := hide (unhide KP w5 (Below.refl _ _)).2.2.2.1
      have XX : Hid (Below w.heap.size w w5) := hide (unhide KP w5 (Below.refl _ _)).2.2.2.2
      clear hls
      go_wp2_with fail
      refine (unhide CF w5 _ _ _ ((unhide KP w5 (Below.refl _ _)).1) 127 0).mono ?_
      rintro e w9 ⟨rfl, b9⟩
      have F9 : Hid (w9.heap[G + 1]? = some (.cells #[.int .i64 0, .int .i64 0, .int .i64 0] 31 (0, 0))) := hide ((b9.block _ (by have := (Array.getElem?_eq_some_iff.1 (unhide FX)).1; omega)).trans (unhide FX))
      have X9 : Hid (Below w.heap.size w w9) := hide ((unhide XX).trans (b9.mono (unhide XX).size))
      clear b9
      obtain ⟨q0, q1, q2⟩ := row_cell3 (unhide F9)
      have y0 := frozen_of_row w9 (G + 1) 0 _ _ (unhide F9)
      have y1 := frozen_of_row w9 (G + 1) 1 _ _ (unhide F9)
      have y2 := frozen_of_row w9 (G + 1) 2 _ _ (unhide F9)
      go_wp2_with fail
      refine bodyPost_ret (ret_tc (p := 5) (u := 4) (T := 31) rfl _ _ (G + 1) _ _ _ rfl (set3 (unhide F9) _ _ _) Tryz.underlying31 rfl size_flt) rfl ⟨none, ⟨0, ?_, ?_⟩, ?_⟩
      · rw [(unhide HE).1, (unhide HE).2]; rfl
      · rw [(unhide HE).1]; exact World.ownsRow_nil _ _ _ _
      · exact set3_below (unhide X9) (by omega) _ _ _
    · have qz : ((tt.size : Int) == 0) = false := by simpa using hz
      have qz2 : ¬ (tt.size : Int) = 0 := by omega
      have hz0 : 0 < tt.size := by omega
      have hgd := lsF_good (t := tt) (by rw [(unhide HMM).2.2.2.2.2.2.2.2])
      rw [(unhide HMM).2.2.2.2.2.2.2.2] at hgd
      simp only [] at hgd
      obtain ⟨g1, g2, g3, g4, g5, g6⟩ := hgd
      have hlsn : ¬ ls = [] := fun e => by
        obtain ⟨r, hr⟩ := g5 hz0
        rw [e, hr] at g3
        simp at g3
      have hnlp : nl = np := by have := unhide HNN; omega
      obtain ⟨⟨oa, oe⟩, hOE⟩ : ∃ r, opsE m l ps ls ps = r := ⟨_, rfl⟩
      have HLK2 : Hid (lookF m (p, l, s, tt) = if oe = 0 then wlk (boF m (p, l, s, tt)) ps.length 0 ([(0, 0)], [0]) else ([], oa, oe)) := hide (by rw [unhide HLK, if_pos rfl, if_neg hlsn, hOE])
      have HOE := hide hOE
      have HGD := hide (And.intro g1 (And.intro g2 (And.intro g3 (And.intro g4 hlsn))))
      clear g1 g2 g3 g4 g5 g6 hlsn hOE
      have hnl4 : nl ≤ 4000 := by omega
      go_wp2_with fail
      go_loopw [10, 12] (fun v10 v12 wr => ∃ i : Nat, v10 = .int .i64 0 ∧ v12 = .int .i64 (i : Int) ∧ Hid (i ≤ nl) ∧ Hid (Below w5.heap.size w5 wr ∧ opsE m l ps (ls.drop i) (ps.drop i) = (oa, oe))) (fun _ v12 _ => nl - (intOf v12).toNat)
      case atStart => exact ⟨0, rfl, rfl, hide (Nat.zero_le _), hide ⟨Below.refl _ _, by rw [List.drop_zero, List.drop_zero]; exact unhide HOE⟩⟩
      case round =>
        obtain ⟨i, rfl, rfl, HI, HR⟩ := hrel
        by_cases hlt : i < nl
        · have i1 : (i : Int) < (nl : Int) := by omega
          have i0 : (0 : Int) ≤ (i : Int) := by omega
          have i2 : (i : Int) < (np : Int) := by omega
          obtain ⟨⟨op, av⟩, hy⟩ : ∃ y, ls[i]? = some y := ⟨_, List.getElem?_eq_getElem (by have := (unhide HNN).1; omega)⟩
          obtain ⟨z, hzz⟩ : ∃ y, ps[i]? = some y := ⟨_, List.getElem?_eq_getElem (by have := (unhide HNN).2; omega)⟩
          obtain ⟨k1, k2, k3, k4, k5⟩ := unhide KP wr (unhide HR).1
          have CO := hide (operandK_any k1 op av ((unhide HGD).2.2.2.1 _ (List.mem_of_getElem? hy)))
          obtain ⟨ld, rfl, l0, l1⟩ := k2 i _ hy
          have hst := (unhide HR).2
          rw [opsE_at m l ps i ls ps (op, av) z hy hzz] at hst
          obtain ⟨oi, hoi⟩ : ∃ o, opE m l ps (op, av) = o := ⟨_, rfl⟩
          simp only [] at CO l0 l1
          rw [hoi] at CO hst
          have HST := hide hst
          obtain ⟨pd, rfl, p0⟩ := k3 i z hzz
          clear p0
          clear k1 k2 k3 k4 k5 hst hoi hy
          go_wp2_with fail
          refine (unhide CO).mono ?_
          rintro e w6 ⟨rfl, b6⟩
          have H6 : Hid (Below w5.heap.size w5 w6) := hide ((unhide HR).1.trans (b6.mono (unhide HR).1.size))
          clear b6 CO l0 l1
          by_cases ho : oi = 0
          · subst ho
            go_wp2_with fail
            go_roundw
            case rel => exact ⟨i + 1, rfl, by go_num, hide (by omega), hide ⟨unhide H6, by have := unhide HST; rw [if_pos (by trivial)] at this; exact this⟩⟩
            case measure => simp [intOf]; omega
          · have qo : (oi == 0) = false := by simpa using ho
            have HOI : Hid (oa = z ∧ oe = oi) := hide (by have := unhide HST; rw [if_neg ho] at this; cases this; exact ⟨rfl, rfl⟩)
            have HE : Hid (RL = [] ∧ RF = (oi, (f : Int), z)) := hide (by
              have h1 := unhide HLK2
              rw [(unhide HOI).1, (unhide HOI).2, if_neg ho] at h1
              exact unhide HBAD _ _ _ h1 ho)
            obtain ⟨k1, k2, k3, k4, k5⟩ := unhide KP w6 (unhide H6)
            obtain ⟨pd2, hpd2, p0⟩ := k3 i z hzz
            cases hpd2
            have HS6 := hide k1
            have FX := hide k4
            have XX := hide k5
            clear k1 k2 k3 k4 k5 hzz
            go_wp2_with fail
            refine (unhide CF w6 _ _ _ (unhide HS6) oi z).mono ?_
            rintro e w9 ⟨rfl, b9⟩
            have F9 : Hid (w9.heap[G + 1]? = some (.cells #[.int .i64 0, .int .i64 0, .int .i64 0] 31 (0, 0))) := hide ((b9.block _ (by have := (Array.getElem?_eq_some_iff.1 (unhide FX)).1; omega)).trans (unhide FX))
            have X9 : Hid (Below w.heap.size w w9) := hide ((unhide XX).trans (b9.mono (unhide XX).size))
            clear b9
            obtain ⟨q0, q1, q2⟩ := row_cell3 (unhide F9)
            have y0 := frozen_of_row w9 (G + 1) 0 _ _ (unhide F9)
            have y1 := frozen_of_row w9 (G + 1) 1 _ _ (unhide F9)
            have y2 := frozen_of_row w9 (G + 1) 2 _ _ (unhide F9)
            go_wp2_with fail
            refine bodyPost_ret (ret_tc (p := 5) (u := 4) (T := 31) rfl _ _ (G + 1) _ _ _ rfl (set3 (unhide F9) _ _ _) Tryz.underlying31 rfl size_flt) rfl ⟨none, ⟨0, ?_, ?_⟩, ?_⟩
            · rw [(unhide HE).1, (unhide HE).2]; rfl
            · rw [(unhide HE).1]; exact World.ownsRow_nil _ _ _ _
            · exact set3_below (unhide X9) (by omega) _ _ _
        · have i1 : ¬ (i : Int) < (nl : Int) := by omega
          have hoe : oe = 0 := by
            have h1 := (unhide HR).2
            rw [List.drop_eq_nil_of_le (by have := (unhide HNN).1; omega), List.drop_eq_nil_of_le (by have := (unhide HNN).2; omega)] at h1
            cases h1
            rfl
          subst hoe
          obtain ⟨W, hWW⟩ : ∃ W, wr = W := ⟨_, rfl⟩
          rw [hWW] at HR
          rw [hWW]
          clear hWW
          have HK0 : Hid (GrK W W B g X m (p, l, s, tt) ps 0 (.slice none 0 0) (.slice none 0 0)) := hide ⟨(unhide KP W (unhide HR).1).1, World.ownsRow_nil _ _ _ _, World.ownsRow_nil _ _ _ _, Below.refl _ _⟩
          have hgW : g < W.heap.size := by have := (unhide HR).1.size; omega
          have KW : Hid (∀ u, Below g W u → u.heap[G + 1]? = some (.cells #[.int .i64 0, .int .i64 0, .int .i64 0] 31 (0, 0)) ∧ Below w.heap.size w u ∧ ∀ j z, ps[j]? = some z → ∃ a, ap = some a ∧ u.cell? (a.add j) = some (.int .i64 z)) := hide (fun u hu => by
            have k := unhide KP W (unhide HR).1
            refine ⟨(hu.block _ (by omega)).trans k.2.2.2.1, k.2.2.2.2.trans (hu.mono (by have := (unhide HMM).2.1; omega)), fun j z hj => ?_⟩
            obtain ⟨a, ha, hc⟩ := k.2.2.1 j z hj
            exact ⟨a, ha, cell_ne hc (hu.block _ (by rw [add_block]; exact (unhide HPG).2.1 a (by rw [(unhide HPG).2.2]; exact ha)))⟩)
          obtain ⟨i3, hi3, hz30, hz31, hz32⟩ := info_parts int_info
          obtain ⟨i4, hi4, hz40, hz41, hz42⟩ := info_parts (show (Tryz.prog.info? 4).map (fun i => (i.zero, i.size, i.bytes)) = some (some (.bool false), 1, 1) by kernel_rfl)
          have HJ := hide (And.intro hi3 (And.intro hz30 (And.intro hz31 hz32)))
          have HJ4 := hide (And.intro hi4 (And.intro hz40 (And.intro hz41 hz42)))
          clear hi3 hz30 hz31 hz32 hi4 hz40 hz41 hz42
          go_wp2_with fail
          go_loopw [13] (fun v13 wr => ∃ j : Nat, v13 = .int .i64 (j : Int) ∧ Hid (j ≤ tt.size) ∧ Hid (∃ hv wv, GrK W wr B g X m (p, l, s, tt) ps j hv wv)) (fun v13 _ => tt.size - (intOf v13).toNat)
          case atStart => exact ⟨0, rfl, hide (Nat.zero_le _), hide ⟨_, _, unhide HK0⟩⟩
          case round =>
            clear HK0
            obtain ⟨j, rfl, HJJ, HG⟩ := hrel
            obtain ⟨hv, wv, hgk⟩ := unhide HG
            obtain ⟨ah, ch, rfl⟩ := own_sliceG hgk.oh
            obtain ⟨aw, cw, rfl⟩ := own_sliceG hgk.ow
            have HGK := hide hgk
            have hgl : g < wr.heap.size := (Array.getElem?_eq_some_iff.1 hgk.see.box).1
            obtain ⟨e0, e1, e3, e5, e6, e7, e8⟩ := hgk.see.at
            clear hgk HG e0 e1 e3 e5 e8
            by_cases hlt2 : j < tt.size
            · have j1 : (j : Int) < (tt.size : Int) := by omega
              have BXA : Hid (∀ v4 w4, w4.ownsRow (g + 1) 3 1 v4 (j + 1) (HV ([], []) j ++ [.int .i64 (-1)]) → wr.grownBy w4 (Value.slice ah j ch).ownBlock → w4.heap[g]? = some (.cells (X.cells (.slice ah j ch) (.slice aw j cw) 0) 71 (0, 0))) := hide (fun v4 w4 o gr => ((unhide HGK).growH (unhide HPG).1 (unhide HPG).2.1 o gr).1)
              have tokA : True := trivial
              go_upto_region 18 with (first
                | (at_builtin; have _t := tokA; refine wpl_oneG rfl (.tmp 78) (.tmp 79) 36 3 i3 _ 1 8 Tryz.underlying36 (unhide HJ).1 (unhide HJ).2.1 (unhide HJ).2.2.1 (unhide HJ).2.2.2 rfl (by omega) rfl (g + 1) j (.slice ah j ch) (HV ([], []) j) [.int .i64 (-1)] rfl (by simp [Value.oneCell']) rfl (unhide HGK).oh rfl (by unfold maxLen; omega) (by omega) (by omega) ?_; clear tokA; intro v4 w4 H4; obtain ⟨ah4, ch4, rfl⟩ := own_sliceG (unhide H4).1; have BX4 := unhide BXA _ _ (unhide H4).1 (unhide H4).2.1; have g6 : w4.cell? ⟨g, 6, none⟩ = some (.slice ah j ch) := by {rw [cell_of_row w4 g 6 _ _ (0, 0) BX4]; rfl}; have z6 := frozen_of_row w4 g 6 _ _ BX4; clear BX4))
              have HG2 := hide ((unhide HGK).growH (unhide HPG).1 (unhide HPG).2.1 (unhide H4).1 (unhide H4).2.1).2
              obtain ⟨w6, hw6⟩ : ∃ w6, w4.setCell ⟨g, 6, none⟩ (.slice ah4 (j + 1) ch4) = w6 := ⟨_, rfl⟩
              rw [hw6] at HG2
              rw [hw6]
              obtain ⟨x0, x1, x3, x5, x6, x7, x8⟩ := (unhide HG2).1.at
              have hg6 : g < w6.heap.size := (Array.getElem?_eq_some_iff.1 (unhide HG2).1.box).1
              clear g6 z6 hw6 H4 HGK BXA e6 e7 x0 x1 x3 x5 x6 x8 hgl
              have BXB : Hid (∀ v7 w7, w7.ownsRow (g + 1) 4 1 v7 (j + 1) (WV ([], []) j ++ [.bool false]) → w6.grownBy w7 (Value.slice aw j cw).ownBlock → w7.heap[g]? = some (.cells (X.cells (.slice ah4 (j + 1) ch4) (.slice aw j cw) 0) 71 (0, 0)) ∧ GrK W (w7.setCell ⟨g, 7, none⟩ v7) B g X m (p, l, s, tt) ps (j + 1) (.slice ah4 (j + 1) ch4) v7) := hide (fun v7 w7 o gr => growW (unhide HG2).1 (unhide HG2).2.1 (unhide HG2).2.2.1 (unhide HG2).2.2.2 (unhide HPG).1 (unhide HPG).2.1 o gr)
              have tokB : True := trivial
              go_upto_region 16 with (first
                | (at_builtin; have _t := tokB; refine wpl_oneG rfl (.tmp 87) (.tmp 88) 69 4 i4 _ 1 1 Tryz.underlying69 (unhide HJ4).1 (unhide HJ4).2.1 (unhide HJ4).2.2.1 (unhide HJ4).2.2.2 rfl (by omega) rfl (g + 1) j (.slice aw j cw) (WV ([], []) j) [.bool false] rfl (by simp [Value.oneCell']) rfl (unhide HG2).2.2.1 rfl (by unfold maxLen; omega) (by omega) (by omega) ?_; clear tokB; intro v7 w7 H7; obtain ⟨aw7, cw7, rfl⟩ := own_sliceG (unhide H7).1; have BX7 := (unhide BXB _ _ (unhide H7).1 (unhide H7).2.1).1; have g7 : w7.cell? ⟨g, 7, none⟩ = some (.slice aw j cw) := by {rw [cell_of_row w7 g 7 _ _ (0, 0) BX7]; rfl}; have z7 := frozen_of_row w7 g 7 _ _ BX7; clear BX7))
              have HG3 := hide (unhide BXB _ _ (unhide H7).1 (unhide H7).2.1).2
              obtain ⟨w8, hw8⟩ : ∃ w8, w7.setCell ⟨g, 7, none⟩ (.slice aw7 (j + 1) cw7) = w8 := ⟨_, rfl⟩
              rw [hw8] at HG3
              rw [hw8]
              clear g7 z7 hw8 H7 HG2 BXB x7
              go_wp2_with fail
              go_roundw
              case rel => exact ⟨j + 1, by go_num, hide (by omega), hide ⟨_, _, unhide HG3⟩⟩
              case measure => simp [intOf]; omega
            · have j1 : ¬ (j : Int) < (tt.size : Int) := by omega
              have hjt : j = tt.size := by have := unhide HJJ; omega
              subst hjt
              obtain ⟨qh, hqh⟩ : ∃ qh, ah = some ⟨qh, 0, none⟩ := by
                rcases (unhide HGK).oh.2 with ⟨e1, e2⟩ | ⟨q, cap', cur, e1, _⟩
                · exfalso; simp at e1; omega
                · cases e1; exact ⟨q, rfl⟩
              obtain ⟨qw, hqw⟩ : ∃ qw, aw = some ⟨qw, 0, none⟩ := by
                rcases (unhide HGK).ow.2 with ⟨e1, e2⟩ | ⟨q, cap', cur, e1, _⟩
                · exfalso; simp at e1; omega
                · cases e1; exact ⟨q, rfl⟩
              subst hqh hqw
              have HRW : Hid (RwK wr B g X m (p, l, s, tt) ps tt.size qh ch qw cw (HV ([], []) tt.size) (WV ([], []) tt.size) 0) := hide ⟨(unhide HGK).see, (unhide HGK).oh, (unhide HGK).ow, (unhide HPG).1, (unhide HPG).2.1⟩
              have HBW := hide (unhide HGK).bel
              have hfit : Fit (boF m (p, l, s, tt)) := by
                obtain ⟨hM, hB, hn1, hn2, hfn, hfs, hcb, hfb, hr⟩ := unhide HMM
                refine fitB_of hfs hcb hfb ?_ ?_ ?_
                · simp only [hr]
                · simp only [hr]; exact (unhide HGD).2.2.2.2
                · simp only [hr, unhide HOE]
              obtain ⟨⟨H, ra, re⟩, hRW⟩ : ∃ R, wlk (boF m (p, l, s, tt)) ps.length 0 ([(0, 0)], [0]) = R := ⟨_, rfl⟩
              have hrr := (unhide HMM).2.2.2.2.2.2.2.2
              have CW := hide (walkK_any (unhide HRW) (by omega) hz0 (boF m (p, l, s, tt)) rfl (by unfold boF; simp only [hrr]) rfl hfit (by simp only [hrr]) _ hRW)
              have hXf : X.f = f := by rw [(unhide HPG).2.2]
              rw [hXf] at CW
              simp only [] at CW
              have HLK3 : Hid (lookF m (p, l, s, tt) = (H, ra, re)) := hide ((unhide HLK2).trans (by first | (rw [if_pos rfl]; exact hRW) | (rw [if_pos trivial]; exact hRW)))
              obtain ⟨⟨fa, fb, fc⟩, hfv⟩ : ∃ t : Int × Int × Int, wlkV f (H, ra, re) = #[.int .i64 t.1, .int .i64 t.2.1, .int .i64 t.2.2] ∧ t = (if re = 0 then (0, 0, 0) else (re, (f : Int), ra)) := by
                unfold wlkV
                by_cases hre : re = 0
                · exact ⟨(0, 0, 0), by simp only [if_pos hre], by rw [if_pos hre]⟩
                · exact ⟨(re, (f : Int), ra), by simp only [if_neg hre], by rw [if_neg hre]⟩
              obtain ⟨hfv, hft⟩ := hfv
              rw [hfv] at CW
              simp only [] at CW
              have HFT := hide hft
              have s5 := (unhide HBW).size
              clear hfit hRW hrr hXf hfv hft e6 e7 HGK
              go_wp2_with fail
              refine (unhide CW).mono ?_
              rintro e w9 ⟨rfl, h9, b9⟩
              have H9 := hide h9
              have BW9 : Hid (Below g W w9) := hide ((unhide HBW).trans b9)
              have s9 := b9.size
              clear h9 b9 CW
              go_upto_region 20 with fail
              obtain ⟨wA, hwA⟩ : ∃ wA, w9.alloc (.cells #[.int .i64 fa, .int .i64 fb, .int .i64 fc] 31) = wA := ⟨_, rfl⟩
              have dA : wA.heap[w9.heap.size]? = some (.cells #[.int .i64 fa, .int .i64 fb, .int .i64 fc] 31 (0, 0)) := by rw [← hwA]; exact heap_alloc_new _ _
              have xA : Below w9.heap.size w9 wA := by rw [← hwA]; exact (Below.refl _ _).alloc (Nat.le_refl _) _
              have hg9 : g ≤ w9.heap.size := by have := (unhide BW9).size; omega
              have BWA : Hid (Below g W wA) := hide ((unhide BW9).trans (xA.mono hg9))
              rw [hwA]
              obtain ⟨RA, hRA⟩ : ∃ RA, w9.heap.size = RA := ⟨_, rfl⟩
              rw [hRA] at dA
              rw [hRA]
              obtain ⟨k0, k1, k2⟩ := row_cell3 dA
              have HXA := hide xA
              clear hwA xA dA
              by_cases hre : re = 0
              · subst hre
                have hft := unhide HFT
                rw [if_pos rfl] at hft
                obtain ⟨rfl, rfl, rfl⟩ : fa = 0 ∧ fb = 0 ∧ fc = 0 := by cases hft; exact ⟨rfl, rfl, rfl⟩
                clear hft HFT
                have HE : Hid (RL = ps.map (fun p => (H.lookup p).getD (-1)) ∧ RF = (0, 0, 0)) := hide (unhide HGOOD _ _ (unhide HLK3))
                have HRA : Hid (∃ lw, RwK wA B g X m (p, l, s, tt) ps tt.size qh ch qw cw (HV (H, []) tt.size) (WV (H, []) tt.size) lw) := hide (by obtain ⟨lw, h⟩ := unhide H9 (by trivial); exact ⟨lw, h.later (unhide HXA)⟩)
                obtain ⟨LO, hLO⟩ : ∃ LO, wA.heap.size = LO := ⟨_, rfl⟩
                have hGLO : G + 2 ≤ LO := by have := (unhide HXA).size; omega
                have HLO : Hid (g < LO ∧ qh < LO ∧ w.heap.size ≤ LO) := hide (by
                  obtain ⟨lw, h⟩ := unhide HRA
                  have h1 := h.gt
                  have h2 := (unhide KW wA (unhide BWA)).2.1.size
                  rw [← hLO]
                  exact ⟨by omega, by omega, h2⟩)
                have HBL : Hid (Below LO wA wA) := hide (Below.refl _ _)
                have HHL := hide hLO
                have KA : Hid (∀ u, Below LO wA u → u.cell? ⟨g, 6, none⟩ = some (.slice (some ⟨qh, 0, none⟩) tt.size ch) ∧ (∀ zn : Nat, zn < tt.size → u.cell? ⟨qh, zn, none⟩ = some (.int .i64 ((H.lookup (zn : Int)).getD (-1)))) ∧ RdI u ap ps ∧ u.heap[G + 1]? = some (.cells #[.int .i64 0, .int .i64 0, .int .i64 0] 31 (0, 0)) ∧ Below w.heap.size w u) := hide (fun u hu => by
                  have hu2 : Below wA.heap.size wA u := by rw [hLO]; exact hu
                  obtain ⟨lw, h⟩ := unhide HRA
                  have k := unhide KW wA (unhide BWA)
                  have h2 := h.later hu2
                  exact ⟨h2.see.at.2.2.2.2.1, fun zn hzn => (own_cell h2.oh (HV_at (H, []) tt.size zn hzn)).1, fun j z hj => by
                      obtain ⟨a, ha, hc⟩ := k.2.2 j z hj
                      exact ⟨a, ha, cell_up hu2 hc⟩, (hu2.block _ (by omega)).trans k.1, k.2.1.trans (hu2.mono k.2.1.size)⟩)
                clear hLO
                go_wp2_with fail
                clear k0 k1 k2
                go_loopw [15, 16] (fun v15 v16 wr => ∃ (i : Nat) (so : Option Addr) (sc : Nat), v15 = .slice so i sc ∧ v16 = .int .i64 (i : Int) ∧ Hid (i ≤ np) ∧ Hid (wr.ownsRow LO 3 1 (.slice so i sc) i ((ps.take i).map (fun z => Value.int .i64 ((H.lookup z).getD (-1)))) ∧ Below LO wA wr)) (fun _ v16 _ => np - (intOf v16).toNat)
                case atStart => exact ⟨0, none, 0, rfl, rfl, hide (Nat.zero_le _), hide ⟨by rw [List.take_zero]; exact World.ownsRow_nil _ _ _ _, unhide HBL⟩⟩
                case round =>
                  obtain ⟨i, so, sc, rfl, rfl, HI3, HO⟩ := hrel
                  by_cases hlt3 : i < np
                  · have i1 : (i : Int) < (np : Int) := by omega
                    have i0 : (0 : Int) ≤ (i : Int) := by omega
                    obtain ⟨z, hzz⟩ : ∃ y, ps[i]? = some y := ⟨_, List.getElem?_eq_getElem (by have := (unhide HNN).2; omega)⟩
                    have hzr := (unhide HGD).2.1 z (List.mem_of_getElem? hzz)
                    obtain ⟨zn, rfl⟩ : ∃ zn : Nat, z = (zn : Int) := ⟨z.toNat, by omega⟩
                    have hznl : zn < tt.size := by omega
                    have zn1 : (zn : Int) < (tt.size : Int) := by omega
                    have zn0 : (0 : Int) ≤ (zn : Int) := by omega
                    obtain ⟨a6, ah6, ar6, af6, ab6⟩ := unhide KA wr (unhide HO).2
                    obtain ⟨pd, hpd, p0⟩ := ar6 i _ hzz
                    have h0 := ah6 zn hznl
                    obtain ⟨hh, hhh⟩ : ∃ hh, (H.lookup (zn : Int)).getD (-1) = hh := ⟨_, rfl⟩
                    rw [hhh] at h0
                    obtain ⟨CS, hCS⟩ : ∃ CS, (ps.take i).map (fun z => Value.int .i64 ((H.lookup z).getD (-1))) = CS := ⟨_, rfl⟩
                    have HCS : Hid ((ps.take (i + 1)).map (fun z => Value.int .i64 ((H.lookup z).getD (-1))) = CS ++ [.int .i64 hh]) := hide (by rw [List.take_add_one, hzz, List.map_append, hCS]; simp [hhh])
                    have hcl := cell_lt p0
                    rw [add_block] at hcl
                    have HPB : Hid (pd.block < LO) := hide (by have := (unhide HPG).2.1 pd (by rw [(unhide HPG).2.2]; exact hpd); have := (unhide HLO).1; omega)
                    have hown := (unhide HO).1
                    rw [hCS] at hown
                    have HOWN := hide hown
                    subst hpd
                    clear hown hCS hhh hzz hzr ah6 ar6 af6 ab6 hcl
                    go_upto_region 26 with fail
                    obtain ⟨WD, hWD⟩ : ∃ WD, wr.drew = WD := ⟨_, rfl⟩
                    have HS0 : Hid (WD.cell? ⟨g, 6, none⟩ = some (.slice (some ⟨qh, 0, none⟩) tt.size ch) ∧ WD.cell? (pd.add i) = some (.int .i64 (zn : Int)) ∧ WD.cell? ⟨qh, zn, none⟩ = some (.int .i64 hh)) := hide (by rw [← hWD]; exact ⟨a6, p0, h0⟩)
                    have XD : Hid (Below wr.heap.size wr WD) := hide (by rw [← hWD]; exact (Below.refl _ _).drew)
                    clear a6 p0 h0
                    refine till_begin (S := fun w' => w'.cell? ⟨g, 6, none⟩ = some (.slice (some ⟨qh, 0, none⟩) tt.size ch) ∧ w'.cell? (pd.add i) = some (.int .i64 (zn : Int)) ∧ w'.cell? ⟨qh, zn, none⟩ = some (.int .i64 hh)) 13 (by kernel_rfl) ?_
                    rw [hWD]
                    clear hWD
                    refine till_take 0 (v := .slice so i sc) (some 104) rfl rfl rfl (by kernel_rfl) (by kernel_rfl) (by kernel_rfl) (by kernel_rfl) (fun _ _ _ h => h) (Or.inl ⟨by rfl, fun u hu => by obtain ⟨b0, b1, b2⟩ := hu; go_simp⟩) (unhide HS0) ?_
                    try simp only [Act.put, List.setIfInBounds_toArray, List.set_cons_zero, List.set_cons_succ]
                    refine till_take 1 (v := .pointer (some ⟨g, 0, none⟩)) (some 105) rfl rfl rfl (by kernel_rfl) (by kernel_rfl) (by kernel_rfl) (by kernel_rfl) (fun _ _ _ h => h) (Or.inl ⟨by rfl, fun u hu => by obtain ⟨b0, b1, b2⟩ := hu; go_simp⟩) (unhide HS0) ?_
                    try simp only [Act.put, List.setIfInBounds_toArray, List.set_cons_zero, List.set_cons_succ]
                    refine till_take 2 (v := .pointer (some ⟨g, 0, none⟩)) (some 106) rfl rfl rfl (by kernel_rfl) (by kernel_rfl) (by kernel_rfl) (by kernel_rfl) (fun _ _ _ h => h) (Or.inl ⟨by rfl, fun u hu => by obtain ⟨b0, b1, b2⟩ := hu; go_simp⟩) (unhide HS0) ?_
                    try simp only [Act.put, List.setIfInBounds_toArray, List.set_cons_zero, List.set_cons_succ]
                    refine till_take 3 (v := .pointer (some ⟨g, 6, none⟩)) (some 107) rfl rfl rfl (by kernel_rfl) (by kernel_rfl) (by kernel_rfl) (by kernel_rfl) (fun _ _ _ h => h) (Or.inl ⟨by rfl, fun u hu => by obtain ⟨b0, b1, b2⟩ := hu; go_simp⟩) (unhide HS0) ?_
                    try simp only [Act.put, List.setIfInBounds_toArray, List.set_cons_zero, List.set_cons_succ]
                    refine till_take 4 (v := .slice (some ⟨qh, 0, none⟩) tt.size ch) (some 108) rfl rfl rfl (by kernel_rfl) (by kernel_rfl) (by kernel_rfl) (by kernel_rfl) (fun _ _ _ h => h) (Or.inl ⟨by rfl, fun u hu => by obtain ⟨b0, b1, b2⟩ := hu; go_simp⟩) (unhide HS0) ?_
                    try simp only [Act.put, List.setIfInBounds_toArray, List.set_cons_zero, List.set_cons_succ]
                    refine till_take 5 (v := .slice (some pd) np cp) (some 109) rfl rfl rfl (by kernel_rfl) (by kernel_rfl) (by kernel_rfl) (by kernel_rfl) (fun _ _ _ h => h) (Or.inl ⟨by rfl, fun u hu => by obtain ⟨b0, b1, b2⟩ := hu; go_simp⟩) (unhide HS0) ?_
                    try simp only [Act.put, List.setIfInBounds_toArray, List.set_cons_zero, List.set_cons_succ]
                    refine till_take 6 (v := .int .i64 (i : Int)) (some 110) rfl rfl rfl (by kernel_rfl) (by kernel_rfl) (by kernel_rfl) (by kernel_rfl) (fun _ _ _ h => h) (Or.inl ⟨by rfl, fun u hu => by obtain ⟨b0, b1, b2⟩ := hu; go_simp⟩) (unhide HS0) ?_
                    try simp only [Act.put, List.setIfInBounds_toArray, List.set_cons_zero, List.set_cons_succ]
                    refine till_take 7 (v := .pointer (some (pd.add i))) (some 111) rfl rfl rfl (by kernel_rfl) (by kernel_rfl) (by kernel_rfl) (by kernel_rfl) (fun _ _ _ h => h) (Or.inl ⟨by rfl, fun u hu => by obtain ⟨b0, b1, b2⟩ := hu; go_simp⟩) (unhide HS0) ?_
                    try simp only [Act.put, List.setIfInBounds_toArray, List.set_cons_zero, List.set_cons_succ]
                    refine till_take 8 (v := .int .i64 (zn : Int)) (some 112) rfl rfl rfl (by kernel_rfl) (by kernel_rfl) (by kernel_rfl) (by kernel_rfl) (fun _ _ _ h => h) (Or.inl ⟨by rfl, fun u hu => by obtain ⟨b0, b1, b2⟩ := hu; go_simp⟩) (unhide HS0) ?_
                    try simp only [Act.put, List.setIfInBounds_toArray, List.set_cons_zero, List.set_cons_succ]
                    refine till_take 9 (v := .pointer (some ⟨qh, zn, none⟩)) (some 113) rfl rfl rfl (by kernel_rfl) (by kernel_rfl) (by kernel_rfl) (by kernel_rfl) (fun _ _ _ h => h) (Or.inl ⟨by rfl, fun u hu => by obtain ⟨b0, b1, b2⟩ := hu; go_simp⟩) (unhide HS0) ?_
                    try simp only [Act.put, List.setIfInBounds_toArray, List.set_cons_zero, List.set_cons_succ]
                    refine till_take 10 (v := .int .i64 hh) (some 114) rfl rfl rfl (by kernel_rfl) (by kernel_rfl) (by kernel_rfl) (by kernel_rfl) (fun _ _ _ h => h) (Or.inl ⟨by rfl, fun u hu => by obtain ⟨b0, b1, b2⟩ := hu; go_simp⟩) (unhide HS0) ?_
                    try simp only [Act.put, List.setIfInBounds_toArray, List.set_cons_zero, List.set_cons_succ]
                    refine till_one 11 (by kernel_rfl) rfl (fun K hK => ?_)
                    go_simp
                    obtain ⟨W4, hW4⟩ : ∃ W4, WD.alloc (.cells #[.int .i64 hh] 3) = W4 := ⟨_, rfl⟩
                    have X4 : Below WD.heap.size WD W4 := by rw [← hW4]; exact (Below.refl _ _).alloc (Nat.le_refl _) _
                    have at4 : W4.heap[WD.heap.size]? = some (.cells #[.int .i64 hh] 3 (0, 0)) := by rw [← hW4]; exact heap_alloc_new WD _
                    try rw [hW4]
                    have HS4 : Hid (W4.cell? ⟨g, 6, none⟩ = some (.slice (some ⟨qh, 0, none⟩) tt.size ch) ∧ W4.cell? (pd.add i) = some (.int .i64 (zn : Int)) ∧ W4.cell? ⟨qh, zn, none⟩ = some (.int .i64 hh)) := hide ⟨cell_up X4 (unhide HS0).1, cell_up X4 (unhide HS0).2.1, cell_up X4 (unhide HS0).2.2⟩
                    have H4 : Hid (Below wr.heap.size wr W4) := hide ((unhide XD).trans (X4.mono (unhide XD).size))
                    obtain ⟨h3s, hh3s⟩ : ∃ h3s, WD.heap.size = h3s := ⟨_, rfl⟩
                    rw [hh3s] at at4
                    try rw [hh3s]
                    refine hK.out _ _ (Or.inr (unhide HS4)) ?_
                    clear hK K hW4 X4 hh3s
                    try simp only [Act.put, List.setIfInBounds_toArray, List.set_cons_zero, List.set_cons_succ]
                    refine till_one 12 (by kernel_rfl) rfl (fun K hK => ?_)
                    refine step_append_lies _ (by rfl) _ _ 36 (by rfl) LO 3 i3 (.int .i64 0) 1 8 Tryz.underlying36 (unhide HJ).1 (unhide HJ).2.1 (unhide HJ).2.2.1 (unhide HJ).2.2.2 rfl (by omega) (.slice so i sc) i CS (by rfl) (own_below (unhide HOWN) (unhide H4)) ⟨h3s, 0, none⟩ 1 1 [.int .i64 hh] (by rfl) (by rfl) (World.news_of_block at4) (by simp [Value.oneCell']) (by omega) (by unfold maxLen; omega) (by omega) (Nat.le_trans (by have := (unhide HO).2.size; have := unhide HHL; omega) (unhide H4).size) _ rfl ?_
                    intro g5 cap5 W5 hown5 hgrow5 hat5 hlt5
                    change K (Act.put _ (some 116) _) W5
                    have hfar : ∀ bk : Nat, bk < LO → some bk ≠ (Value.slice so i sc).ownBlock := fun bk hbk e => by have := ((unhide HOWN).lt bk e.symm).1; omega
                    have hLOW : LO ≤ W4.heap.size := Nat.le_trans (by have := (unhide HO).2.size; have := unhide HHL; omega) (unhide H4).size
                    have HS5 : Hid (W5.cell? ⟨g, 6, none⟩ = some (.slice (some ⟨qh, 0, none⟩) tt.size ch) ∧ W5.cell? (pd.add i) = some (.int .i64 (zn : Int)) ∧ W5.cell? ⟨qh, zn, none⟩ = some (.int .i64 hh)) := hide ⟨(hgrow5.cell_far ⟨g, 6, none⟩ (Nat.lt_of_lt_of_le (unhide HLO).1 hLOW) (hfar _ (unhide HLO).1)).trans (unhide HS4).1, (hgrow5.cell_far (pd.add i) (by rw [add_block]; exact Nat.lt_of_lt_of_le (unhide HPB) hLOW) (by rw [add_block]; exact hfar _ (unhide HPB))).trans (unhide HS4).2.1, (hgrow5.cell_far ⟨qh, zn, none⟩ (Nat.lt_of_lt_of_le (unhide HLO).2.1 hLOW) (hfar _ (unhide HLO).2.1)).trans (unhide HS4).2.2⟩
                    have HEND : Hid (W5.ownsRow LO 3 1 (.slice (some ⟨g5, 0, none⟩) (i + 1) cap5) (i + 1) ((ps.take (i + 1)).map (fun z => Value.int .i64 ((H.lookup z).getD (-1)))) ∧ Below LO wA W5) := hide ⟨by rw [unhide HCS]; exact hown5, ((unhide HO).2.trans ((unhide H4).mono (by have := (unhide HO).2.size; have := unhide HHL; omega))).trans ((Below.refl _ _).grown hgrow5 hLOW (fun b hb => ((unhide HOWN).lt b hb).1))⟩
                    refine hK.out _ _ (Or.inr (unhide HS5)) ?_
                    clear hK K hown5 hgrow5 hat5 hlt5 hfar hLOW
                    try simp only [Act.put, List.setIfInBounds_toArray, List.set_cons_zero, List.set_cons_succ]
                    refine till_one 13 (by kernel_rfl) rfl (fun K hK => ?_)
                    obtain ⟨b0, b1, b2⟩ := unhide HS5
                    go_simp
                    refine hK.out _ _ (Or.inl (by first | rfl | trivial)) ?_
                    clear hK K b0 b1 b2
                    try simp only [Act.put, List.setIfInBounds_toArray, List.set_cons_zero, List.set_cons_succ]
                    refine till_done (by kernel_rfl) ?_ _
                    clear HS5 HS4 HS0 at4 H4 XD HOWN HCS
                    go_wp2_with fail
                    go_roundw
                    case rel => exact ⟨i + 1, _, _, rfl, by go_num, hide (by omega), HEND⟩
                    case measure => simp [intOf]; omega
                  · have i1 : ¬ (i : Int) < (np : Int) := by omega
                    have hin : i = np := by have := unhide HI3; omega
                    subst hin
                    have k := unhide KA wr (unhide HO).2
                    have HF9 := hide k.2.2.2.1
                    have X9 := hide k.2.2.2.2
                    clear k
                    obtain ⟨q0, q1, q2⟩ := row_cell3 (unhide HF9)
                    have y0 := frozen_of_row wr (G + 1) 0 _ _ (unhide HF9)
                    have y1 := frozen_of_row wr (G + 1) 1 _ _ (unhide HF9)
                    have y2 := frozen_of_row wr (G + 1) 2 _ _ (unhide HF9)
                    go_wp2_with fail
                    have hlen : RL.length = i := by rw [(unhide HE).1, List.length_map]; exact (unhide HNN).2
                    refine bodyPost_ret (ret_tc (p := 5) (u := 4) (T := 31) rfl _ _ (G + 1) _ _ _ rfl (set3 (unhide HF9) _ _ _) Tryz.underlying31 rfl size_flt) rfl ⟨⟨so, sc, ?_, ?_⟩, ?_⟩
                    · rw [hlen, (unhide HE).2]; rfl
                    · rw [hlen]
                      have ho := (unhide HO).1
                      rw [List.take_of_length_le (Nat.le_of_eq (unhide HNN).2)] at ho
                      have e : RL.map (Value.int .i64) = ps.map (fun z => Value.int .i64 ((H.lookup z).getD (-1))) := by rw [(unhide HE).1, List.map_map]; rfl
                      rw [e]
                      refine own_low (own_later ho (fun b hl hb => ?_)) ?_
                      · have h1 := (ho.lt b hb).1
                        have hne : b ≠ G + 1 := by omega
                        rw [heap_setCell_other _ _ _ _ hne, heap_setCell_other _ _ _ _ hne, heap_setCell_other _ _ _ _ hne]
                      · have := (unhide HLO).2.2; omega
                    · have hq := unhide X9
                      first
                        | exact set3_below hq (by omega) _ _ _
                        | (rw [hG] at hq; exact set3_below hq (by omega) _ _ _)
              · have hft := unhide HFT
                rw [if_neg hre] at hft
                obtain ⟨rfl, rfl, rfl⟩ : fa = re ∧ fb = (f : Int) ∧ fc = ra := by cases hft; exact ⟨rfl, rfl, rfl⟩
                clear hft HFT
                have qre : (fa == 0) = false := by simpa using hre
                have HE : Hid (RL = [] ∧ RF = (fa, (f : Int), fc)) := hide (unhide HBAD _ _ _ (unhide HLK3) hre)
                go_upto_region 21 with fail
                obtain ⟨wd, hwd⟩ : ∃ wd, wA.drew = wd := ⟨_, rfl⟩
                have HS0 : Hid (wd.cell? ⟨RA, 0, none⟩ = some (.int .i64 fa) ∧ wd.cell? ⟨RA, 1, none⟩ = some (.int .i64 (f : Int)) ∧ wd.cell? ⟨RA, 2, none⟩ = some (.int .i64 fc)) := hide (by rw [← hwd]; exact ⟨k0, k1, k2⟩)
                have HF6 : Hid (wd.heap[G + 1]? = some (.cells #[.int .i64 0, .int .i64 0, .int .i64 0] 31 (0, 0))) := hide (by rw [← hwd]; exact (unhide KW wA (unhide BWA)).1)
                have XD : Hid (Below w.heap.size w wd) := hide (by rw [← hwd]; exact (unhide KW wA (unhide BWA)).2.1.drew)
                clear k0 k1 k2
                refine till_begin (S := fun w' => w'.cell? ⟨RA, 0, none⟩ = some (.int .i64 fa) ∧ w'.cell? ⟨RA, 1, none⟩ = some (.int .i64 (f : Int)) ∧ w'.cell? ⟨RA, 2, none⟩ = some (.int .i64 fc)) 2 (by kernel_rfl) ?_
                rw [hwd]
                clear hwd
                refine till_take 0 (v := .agg #[.int .i64 fa, .int .i64 (f : Int), .int .i64 fc]) (some 97) rfl rfl rfl (by kernel_rfl) (by kernel_rfl) (by kernel_rfl) (by kernel_rfl) (fun _ _ _ h => h) (Or.inl ⟨by rfl, fun u hu => by obtain ⟨b0, b1, b2⟩ := hu; go_simp⟩) (unhide HS0) ?_
                try simp only [Act.put, List.setIfInBounds_toArray, List.set_cons_zero, List.set_cons_succ]
                refine till_one 1 (by kernel_rfl) rfl (fun K hK => ?_)
                go_simp
                refine hK.out _ _ (Or.inr (unhide HS0)) ?_
                clear hK K
                try simp only [Act.put, List.setIfInBounds_toArray, List.set_cons_zero, List.set_cons_succ]
                refine till_one 2 (by kernel_rfl) rfl (fun K hK => ?_)
                obtain ⟨q0, q1, q2⟩ := row_cell3 (unhide HF6)
                have y0 := frozen_of_row wd (G + 1) 0 _ _ (unhide HF6)
                have y1 := frozen_of_row wd (G + 1) 1 _ _ (unhide HF6)
                have y2 := frozen_of_row wd (G + 1) 2 _ _ (unhide HF6)
                go_simp
                refine hK.out _ _ (Or.inl (by first | rfl | trivial)) ?_
                clear hK K q0 q1 q2 y0 y1 y2
                try simp only [Act.put, List.setIfInBounds_toArray, List.set_cons_zero, List.set_cons_succ]
                refine till_done (by kernel_rfl) ?_ _
                go_wp2_with fail
                refine bodyPost_ret (ret_tc (p := 5) (u := 4) (T := 31) rfl _ _ (G + 1) _ _ _ rfl (set3 (unhide HF6) _ _ _) Tryz.underlying31 rfl size_flt) rfl ⟨none, ⟨0, ?_, ?_⟩, ?_⟩
                · rw [(unhide HE).1, (unhide HE).2]; rfl
                · rw [(unhide HE).1]; exact World.ownsRow_nil _ _ _ _
                · exact set3_below (unhide XD) (by omega) _ _ _
  · have qle : (le == 0) = false := by simpa using hle
    have HE : Hid (RL = [] ∧ RF = (121, (f : Int), la)) := hide (unhide HBAD _ _ _ (by rw [unhide HLK, if_neg hle]) (by decide))
    have FX : Hid (w5.heap[G + 1]? = some (.cells #[.int .i64 0, .int .i64 0, .int .i64 0] 31 (0, 0))) := hide (unhide KP w5 (Below.refl _ _)).2.2.2.1
    have XX : Hid (Below w.heap.size w w5) := hide (unhide KP w5 (Below.refl _ _)).2.2.2.2
    go_wp2_with fail
    refine (unhide CF w5 _ _ _ ((unhide KP w5 (Below.refl _ _)).1) 121 la).mono ?_
    rintro e w9 ⟨rfl, b9⟩
    have F9 : Hid (w9.heap[G + 1]? = some (.cells #[.int .i64 0, .int .i64 0, .int .i64 0] 31 (0, 0))) := hide ((b9.block _ (by have := (Array.getElem?_eq_some_iff.1 (unhide FX)).1; omega)).trans (unhide FX))
    have X9 : Hid (Below w.heap.size w w9) := hide ((unhide XX).trans (b9.mono (unhide XX).size))
    clear b9
    obtain ⟨q0, q1, q2⟩ := row_cell3 (unhide F9)
    have y0 := frozen_of_row w9 (G + 1) 0 _ _ (unhide F9)
    have y1 := frozen_of_row w9 (G + 1) 1 _ _ (unhide F9)
    have y2 := frozen_of_row w9 (G + 1) 2 _ _ (unhide F9)
    go_wp2_with fail
    refine bodyPost_ret (ret_tc (p := 5) (u := 4) (T := 31) rfl _ _ (G + 1) _ _ _ rfl (set3 (unhide F9) _ _ _) Tryz.underlying31 rfl size_flt) rfl ⟨none, ⟨0, ?_, ?_⟩, ?_⟩
    · rw [(unhide HE).1, (unhide HE).2]; rfl
    · rw [(unhide HE).1]; exact World.ownsRow_nil _ _ _ _
    · exact set3_below (unhide X9) (by omega) _ _ _
end Go.Proofs.YtcknoeepdjhnoaaGreatDoor
