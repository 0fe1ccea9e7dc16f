/-
  Layer 12 (verify): the walk of look; conditions: the package's variables.
-/
import Derived.Test.YtmnbfcpkaglniaaGreatDoorS28
import Derived.Test.YtmnbfcpkaglniaaGreatDoorS32
set_option linter.unusedVariables false
set_option linter.unusedSimpArgs false
namespace Go.Proofs.YtmnbfcpkaglniaaGreatDoor
open Go.RowKit
set_option linter.unusedVariables false
set_option linter.unusedSimpArgs false
theorem ret_tc {P : Program} {fn : Func} {p u : Tmp} {T : TypeId} (h : fn.results = #[.tmp u, .cell p T]) (tmps : Array Value) (w : World) (g : Nat) (c : Array Value) (d : TypeDesc) (t : TypeId)
    (hp : tmps.getD p undef = .pointer (some ⟨g, 0, none⟩)) (hb : w.heap[g]? = some (.cells c t (0, 0))) (hu : P.underlying T = some d) (hd : (match d with | .struct _ | .array _ _ => true | _ => false) = true) (hi : (P.info? T).map (·.size) = some c.size) :
    (results fn tmps).run P w = .ok (.tuple #[tmps.getD u undef, .agg c]) w := by
  have hl := run_loadVar_row (P := P) w g t T c (0, 0) _ hb hu hd hi
  have hp' : tmps[p]?.getD undef = .pointer (some ⟨g, 0, none⟩) := by simpa using hp
  simp [results, h, asAddr, Result.andThen, hl, hp']
theorem size_flt : (Tryz.prog.info? 83).map (·.size) = some 3 := by kernel_rfl
theorem set3 {w : World} {q : Nat} {z0 z1 z2 : Value} {T : TypeId} (h : w.heap[q]? = some (.cells #[z0, z1, z2] T (0, 0))) (y0 y1 y2 : Value) :
    (((w.setCell ⟨q, 0, none⟩ y0).setCell ⟨q, 1, none⟩ y1).setCell ⟨q, 2, none⟩ y2).heap[q]? = some (.cells #[y0, y1, y2] T (0, 0)) := by
  have e0 := heap_setCell_same w q 0 _ T y0 h
  simp only [List.setIfInBounds_toArray, List.set_cons_zero, List.set_cons_succ] at e0
  have e1 := heap_setCell_same _ q 1 _ T y1 e0
  simp only [List.setIfInBounds_toArray, List.set_cons_zero, List.set_cons_succ] at e1
  have e2 := heap_setCell_same _ q 2 _ T y2 e1
  simpa only [List.setIfInBounds_toArray, List.set_cons_zero, List.set_cons_succ] using e2
theorem set3_below {w w0 : World} {B q : Nat} (h : Below B w0 w) (hq : B ≤ q) (y0 y1 y2 : Value) : Below B w0 (((w.setCell ⟨q, 0, none⟩ y0).setCell ⟨q, 1, none⟩ y1).setCell ⟨q, 2, none⟩ y2) :=
  ((h.setCell (p := ⟨q, 0, none⟩) hq _).setCell (p := ⟨q, 1, none⟩) hq _).setCell (p := ⟨q, 2, none⟩) hq _
theorem Hts.empty {w : World} {b : Nat} (h : w.heap[b]? = some (.map #[] 0)) : Hts w b [] := by
  obtain ⟨D, ⟨es, ck, h1, h2⟩, h3⟩ := Hts.made w
  have e : (w.alloc (.map #[] 0)).heap[w.heap.size]? = some (.map #[] 0) := heap_alloc_new w (.map #[] 0)
  rw [h1] at e
  cases e
  exact ⟨D, ⟨#[], 0, h, h2⟩, h3⟩
theorem lst_le (zs : List Int) : ∀ f p, (lst zs f p).2.1.length ≤ f
  | 0, _ => Nat.le_refl _
  | f + 1, p => by
    unfold lst
    split
    · simp
    · split
      · have := lst_le zs f (takeI zs (p : Int)).2.2.1.toNat
        unfold glue
        split
        · simp
          omega
        · simp
      · simp
theorem own_rdI {w : World} {base n cap : Nat} {ao : Option Addr} {zs : List Int} (h : w.ownsRow base 3 1 (.slice ao n cap) n (zs.map (Value.int .i64))) : RdI w ao zs := fun j z hj => by
  rcases h.2 with ⟨e, e2⟩ | ⟨g, c, cur, e, h1, h2, h3, h4, h5, h6⟩
  · have hl := h.1
    have := (List.getElem?_eq_some_iff.1 hj).1
    rw [List.length_map] at hl
    omega
  · cases e
    refine ⟨_, rfl, ?_⟩
    rw [add_offR, cell_of_row w g _ _ _ (0, 0) h2]
    have e3 : (zs.map (Value.int .i64))[j]? = some (.int .i64 z) := by rw [List.getElem?_map, hj]; rfl
    rw [← h6, List.getElem?_take] at e3
    split at e3
    · simpa using e3
    · cases e3
theorem own_rdN {w : World} {base n cap : Nat} {ao : Option Addr} {ls : List Ins} (h : w.ownsRow base 36 2 (.slice ao n cap) n (insV ls)) : RdN w ao ls := fun j p hj => by
  rcases h.2 with ⟨e, e2⟩ | ⟨g, c, cur, e, h1, h2, h3, h4, h5, h6⟩
  · have hl := h.1
    have := (List.getElem?_eq_some_iff.1 hj).1
    rw [insV_len] at hl
    omega
  · cases e
    obtain ⟨q0, q1⟩ := insV_at ls j p hj
    refine ⟨_, rfl, ?_, ?_⟩
    · rw [add_offR, cell_of_row w g _ _ _ (0, 0) h2]
      rw [← h6, List.getElem?_take] at q0
      split at q0
      · simpa using q0
      · cases q0
    · rw [add_offR, cell_of_row w g _ _ _ (0, 0) h2]
      rw [← h6, List.getElem?_take] at q1
      split at q1
      · simpa [Nat.add_assoc] using q1
      · cases q1
theorem fnB_parts {fn : Fn} (h : fnB fn = true) : 0 ≤ fn.1 ∧ fn.1 ≤ 8 ∧ 0 ≤ fn.2.2.1 ∧ fn.2.2.1 ≤ 40 ∧ fn.2.2.2.size ≤ 4000 := by
  unfold fnB at h
  simp only [Bool.and_eq_true, decide_eq_true_eq] at h
  omega
theorem IsM.cbl {w : World} {B : Nat} {m : Md} {a1 a2 a3 : Option Addr} {c1 c2 c3 : Nat} (h : IsM w (fun b => b < B) m a1 c1 a2 c2 a3 c3) : ∀ v ∈ m.cs, v.l.length ≤ 140737488351232 := fun v hv => by
  obtain ⟨i, hi⟩ := List.getElem?_of_mem hv
  obtain ⟨ad, y0, y1, y2, al', ak', ll', m', cl', ck', hax, hab, hcc, hvv⟩ := h.const i v hi
  obtain ⟨kd, n, s, l, ks, al, ak, cl, ck, V, rfl, hx, hf, el⟩ := hvv.inv
  exact hf.bl
theorem lsF_good {t : ByteArray} (h : (lsF t).2.2.2 = 0) : (lsF t).2.1.Pairwise (· < ·) ∧ (∀ x ∈ (lsF t).2.1, (0 : Int) ≤ x ∧ x < (t.size : Int)) ∧ (lsF t).1.length = (lsF t).2.1.length ∧ (∀ i ∈ (lsF t).1, faultI i.1 i.2 = 0) ∧ (0 < t.size → ∃ r, (lsF t).2.1 = 0 :: r) ∧ (lsF t).2.1.length ≤ t.size := by
  have h1 := lst_good (zsT t) (zsT t).length 0 h
  have h2 := lst_le (zsT t) (zsT t).length 0
  rw [zsT_len] at h1 h2
  unfold lsF
  rw [zsT_len]
  exact ⟨h1.1, fun x hx => by have := h1.2.1 x hx; omega, h1.2.2.1, h1.2.2.2.1, fun h => h1.2.2.2.2 h h, h2⟩
theorem lsF_some {t : ByteArray} (h : ¬ (lsF t).1 = []) : 0 < t.size := by
  rcases Nat.eq_zero_or_pos t.size with e | e
  · refine absurd ?_ h
    unfold lsF
    rw [zsT_len, e]
    rfl
  · exact e
/-- a function of a right module whose operands name something -/
theorem fitB_of {m : Md} {fn : Fn} (hm : ∀ f ∈ m.fs, fnB f = true) (hc : ∀ v ∈ m.cs, v.l.length ≤ 140737488351232) (hfn : fnB fn = true) (h1 : (lsF fn.2.2.2).2.2.2 = 0) (h2 : ¬ (lsF fn.2.2.2).1 = []) (h3 : (opsE m fn.2.1 (lsF fn.2.2.2).2.1 (lsF fn.2.2.2).1 (lsF fn.2.2.2).2.1).2 = 0) : Fit (boF m fn) := by
  obtain ⟨g1, g2, g3, g4, g5, g6⟩ := lsF_good h1
  have hp := fnB_parts hfn
  have hop := opsE_ok m fn.2.1 (lsF fn.2.2.2).2.1 (lsF fn.2.2.2).1 (lsF fn.2.2.2).2.1 g3 h3
  have hnm : ∀ i ∈ (lsF fn.2.2.2).1, Named m i := fun i hi => Named.of (g4 i hi) (hop i hi)
  refine ⟨⟨g3, g1, g2, g4, g5 (lsF_some h2)⟩, hnm, fun i hi ho => ?_, fun i hi => tk_small (hnm i hi) (fun f hf => (fnB_parts (hm f hf)).1) hc (fun f hf => by have := (fnB_parts (hm f hf)).2.1; omega), hp.2.2.1, hp.2.2.2.1⟩
  have hz := hop i hi
  unfold opE at hz
  have hs : srt i.1 = 3 := by
    rcases ho with e | e
    · rw [e]; exact sorts_are.1
    · rw [e]; exact sorts_are.2.1
  rw [hs, if_neg (by omega), if_neg (by omega), if_neg (by omega), if_pos rfl] at hz
  split at hz
  · assumption
  · omega
/-- the world in which a body has just been made -/
structure Began (w w' : World) (G : Nat) (cm : Array Value) (cb : Array Value) : Prop where
  below : Below w.heap.size w w'
  size : w'.heap.size = w.heap.size + 4
  mod : w'.heap[G]? = some (.cells cm 47 (0, 0))
  flt : w'.heap[G + 1]? = some (.cells #[.int .i64 0, .int .i64 0, .int .i64 0] 83 (0, 0))
  map : w'.heap[G + 2]? = some (.map #[] 0)
  bod : w'.heap[G + 2 + 1]? = some (.cells cb 174 (0, 0))
theorem began_mk (w : World) (G : Nat) (cm cb : Array Value) (hG : w.heap.size = G) : Began w ((((w.alloc (.cells cm 47)).alloc (.cells #[.int .i64 0, .int .i64 0, .int .i64 0] 83)).drew.alloc (.map #[] 0)).alloc (.cells cb 174)) G cm cb := by
  subst hG
  obtain ⟨a, ha⟩ : ∃ a, w.alloc (.cells cm 47) = a := ⟨_, rfl⟩
  have a1 : a.heap[w.heap.size]? = some (.cells cm 47 (0, 0)) := by rw [← ha]; exact heap_alloc_new _ _
  have a2 : a.heap.size = w.heap.size + 1 := by rw [← ha]; simp
  have a3 : Below w.heap.size w a := by rw [← ha]; exact (Below.refl _ _).alloc (Nat.le_refl _) _
  rw [ha]
  obtain ⟨b, hb⟩ : ∃ b, (a.alloc (.cells #[.int .i64 0, .int .i64 0, .int .i64 0] 83)).drew = b := ⟨_, rfl⟩
  have b1 : b.heap[a.heap.size]? = some (.cells #[.int .i64 0, .int .i64 0, .int .i64 0] 83 (0, 0)) := by rw [← hb]; exact heap_alloc_new a _
  have b2 : b.heap.size = a.heap.size + 1 := by rw [← hb]; simp
  have b3 : Below a.heap.size a b := by rw [← hb]; exact ((Below.refl _ _).alloc (Nat.le_refl _) _).drew
  rw [hb]
  obtain ⟨c, hc⟩ : ∃ c, b.alloc (.map #[] 0) = c := ⟨_, rfl⟩
  have c1 : c.heap[b.heap.size]? = some (.map #[] 0) := by rw [← hc]; exact heap_alloc_new b (.map #[] 0)
  have c2 : c.heap.size = b.heap.size + 1 := by rw [← hc]; simp
  have c3 : Below b.heap.size b c := by rw [← hc]; exact (Below.refl _ _).alloc (Nat.le_refl _) _
  rw [hc]
  obtain ⟨d, hd⟩ : ∃ d, c.alloc (.cells cb 174) = d := ⟨_, rfl⟩
  have d1 : d.heap[c.heap.size]? = some (.cells cb 174 (0, 0)) := by rw [← hd]; exact heap_alloc_new _ _
  have d2 : d.heap.size = c.heap.size + 1 := by rw [← hd]; simp
  have d3 : Below c.heap.size c d := by rw [← hd]; exact (Below.refl _ _).alloc (Nat.le_refl _) _
  rw [hd]
  refine ⟨a3.trans ((b3.mono (by omega)).trans ((c3.mono (by omega)).trans (d3.mono (by omega)))), by omega, ?_, ?_, ?_, ?_⟩
  · rw [d3.block _ (by omega), c3.block _ (by omega), b3.block _ (by omega)]; exact a1
  · rw [d3.block _ (by omega), c3.block _ (by omega), ← a2]; exact b1
  · rw [d3.block _ (by omega), show w.heap.size + 2 = b.heap.size by omega]; exact c1
  · rw [show w.heap.size + 2 + 1 = c.heap.size by omega]; exact d1
/-- a body that can be read, another block being changed -/
theorem SeeB.other {w w' : World} {B g q : Nat} {x : Bv} {m : Md} {fn : Fn} {ls : List Ins} {ps : List Int} {hv wv : Value} (h : SeeB w B g x m fn ls ps hv wv) (hb : Below B w w') (ho : ∀ b, b ≠ q → w'.heap[b]? = w.heap[b]?) (hg : g ≠ q) (h1 : 1 < B) (ha : ∀ a, x.al = some a → a.block ≠ q) (hp : ∀ a, x.ap = some a → a.block ≠ q) : SeeB w' B g x m fn ls ps hv wv where
  box := (ho g hg).trans h.box
  l1 := h.l1
  l2 := h.l2
  mod := h.mod.later hb
  big := Nat.le_trans h.big hb.size
  tab := h.tab.later hb h1 hb.size
  ll := h.ll
  lp := h.lp
  bp := h.bp
  ins := fun j p hj => by
    obtain ⟨a, h2, hc, hd⟩ := h.ins j p hj
    have hn := ha a h2
    have e1 := add_block a (j * 2)
    exact ⟨a, h2, cell_ne hc (ho _ (by rw [e1]; exact hn)), cell_ne hd (ho _ (by simp only []; rw [e1]; exact hn))⟩
  pls := fun j z hj => by
    obtain ⟨a, h2, hc⟩ := h.pls j z hj
    have hn := hp a h2
    have e1 := add_block a j
    exact ⟨a, h2, cell_ne hc (ho _ (by rw [e1]; exact hn))⟩
  fl := h.fl
/-- what look leaves -/
structure Looked (w w' : World) (B g hb : Nat) (x : Bv) (m : Md) (fn : Fn) (H : List (Int × Int)) (wv : Value) : Prop where
  below : Below w.heap.size w w'
  see : SeeB w' B g x m fn (lsF fn.2.2.2).1 (lsF fn.2.2.2).2.1 (.map (some hb)) wv
  map : Hts w' hb H
/-- what look answers -/
def LookR (w w' : World) (B : Nat) (m : Md) (f : Nat) (fn : Fn) (e : Ending) : Prop :=
  (¬ (lookF m fn).2.2 = 0 ∧ e = .returned (.tuple #[.pointer none, .agg #[.int .i64 (lookF m fn).2.2, .int .i64 (f : Int), .int .i64 (lookF m fn).2.1]]) ∧ Below w.heap.size w w') ∨
  ((lookF m fn).2.2 = 0 ∧ ∃ g hb x wv, e = .returned (.tuple #[.pointer (some ⟨g, 0, none⟩), .agg #[.int .i64 0, .int .i64 0, .int .i64 0]]) ∧ Looked w w' B g hb x m fn (lookF m fn).1 wv)
set_option maxRecDepth 100000 in
set_option maxHeartbeats 8000000 in
theorem look_any (m : Md) (b1 : Option Addr) (n1 d1 : Nat) (b2 : Option Addr) (n2 d2 : Nat) (b3 : Option Addr) (n3 d3 : Nat) (B f : Nat) (p l s : Int) (tt : ByteArray) (w : World)
    (hM : IsM w (fun b => b < B) m b1 d1 b2 d2 b3 d3) (hB : B ≤ w.heap.size) (h1B : 1 < B) (hT : Tab2 w) (hn1 : m.cs.length = n1) (hn2 : m.fs.length = n2) (hfn : m.fs[f]? = some (p, l, s, tt)) (hfs : ∀ f ∈ m.fs, fnB f = true) :
    Calls Tryz.prog 49 #[.agg #[.slice b1 n1 d1, .slice b2 n2 d2, .slice b3 n3 d3], .int .i64 (f : Int)] w fun e w' => LookR w w' B m f (p, l, s, tt) e := by
  have HM0 := hide (And.intro hM (And.intro hB (And.intro h1B (And.intro hT (And.intro hn1 (And.intro hn2 (And.intro (hfs _ (List.mem_of_getElem? hfn)) hfs)))))))
  have htz : tt.size ≤ 4000 := (fnB_parts (hfs _ (List.mem_of_getElem? hfn))).2.2.2.2
  obtain ⟨ad, rfl, hab, hts, f0, f1, f2, f3⟩ := hM.func f p l s tt hfn
  obtain ⟨G, hG⟩ : ∃ G, w.heap.size = G := ⟨_, rfl⟩
  have hbm := began_mk w G #[.slice b1 n1 d1, .slice (some ad) n2 d2, .slice b3 n3 d3] #[.slice b1 n1 d1, .slice (some ad) n2 d2, .slice b3 n3 d3, .int .i64 p, .int .i64 l, .int .i64 s, .string tt, .slice none 0 0, .slice none 0 0, .map (some (G + 2)), .slice none 0 0] hG
  have HBM := hide hbm
  clear hbm
  obtain ⟨w1, hw1⟩ : ∃ w1, w.alloc (.cells #[.slice b1 n1 d1, .slice (some ad) n2 d2, .slice b3 n3 d3] 47) = w1 := ⟨_, rfl⟩
  have z1 : w1.heap.size = G + 1 := by rw [← hw1, ← hG]; simp
  rw [hw1] at HBM
  have A1 : w1.heap[G]? = some (.cells #[.slice b1 n1 d1, .slice (some ad) n2 d2, .slice b3 n3 d3] 47 (0, 0)) := by rw [← hw1, ← hG]; exact heap_alloc_new _ _
  have B1 : Below w.heap.size w w1 := by rw [← hw1]; exact (Below.refl _ _).alloc (Nat.le_refl _) _
  obtain ⟨wd, hwd⟩ : ∃ wd, (w1.alloc (.cells #[.int .i64 0, .int .i64 0, .int .i64 0] 83)).drew = wd := ⟨_, rfl⟩
  rw [hwd] at HBM
  have Bd : Below w1.heap.size w1 wd := by rw [← hwd]; exact ((Below.refl _ _).alloc (Nat.le_refl _) _).drew
  have zd : wd.heap.size = G + 2 := by rw [← hwd]; simp; omega
  obtain ⟨g0, g1, g2⟩ := row_cell3 ((Bd.block G (by omega)).trans A1)
  have Bw : Below w.heap.size w wd := B1.trans (Bd.mono B1.size)
  have hmm := @run_makeMap Tryz.prog
  have hfl : (f : Int) < (n2 : Int) := by have := (List.getElem?_eq_some_iff.1 hfn).1; omega
  have hn2b : n2 ≤ 140737488351232 := by have := hM.len.2.1; omega
  have f0 := cell_ne f0 (Bw.block _ (cell_lt f0))
  have f1 := cell_ne f1 (Bw.block _ (cell_lt f1))
  have f2 := cell_ne f2 (Bw.block _ (cell_lt f2))
  have f3 := cell_ne f3 (Bw.block _ (cell_lt f3))
  have SK : Hid (∀ u, Below wd.heap.size wd u → u.cell? ⟨G, 0, none⟩ = some (.slice b1 n1 d1) ∧ u.cell? ⟨G, 1, none⟩ = some (.slice (some ad) n2 d2) ∧ u.cell? ⟨G, 2, none⟩ = some (.slice b3 n3 d3) ∧ u.cell? (ad.add (f * 4)) = some (.int .i64 p) ∧ u.cell? ⟨(ad.add (f * 4)).block, (ad.add (f * 4)).off + 1, none⟩ = some (.int .i64 l) ∧ u.cell? ⟨(ad.add (f * 4)).block, (ad.add (f * 4)).off + 2, none⟩ = some (.int .i64 s) ∧ u.cell? ⟨(ad.add (f * 4)).block, (ad.add (f * 4)).off + 3, none⟩ = some (.string tt)) := hide (fun u hu => ⟨cell_ne g0 (hu.block _ (cell_lt g0)), cell_ne g1 (hu.block _ (cell_lt g1)), cell_ne g2 (hu.block _ (cell_lt g2)), cell_ne f0 (hu.block _ (cell_lt f0)), cell_ne f1 (hu.block _ (cell_lt f1)), cell_ne f2 (hu.block _ (cell_lt f2)), cell_ne f3 (hu.block _ (cell_lt f3))⟩)
  clear hM hfn A1 B1 Bd Bw hab
  go_enter Tryz.func49, Tryz.ntmps49
  go_upto_region 1 with fail
  have HS0 : Hid (wd.cell? ⟨G, 0, none⟩ = some (.slice b1 n1 d1) ∧ wd.cell? ⟨G, 1, none⟩ = some (.slice (some ad) n2 d2) ∧ wd.cell? ⟨G, 2, none⟩ = some (.slice b3 n3 d3) ∧ wd.cell? (ad.add (f * 4)) = some (.int .i64 p) ∧ wd.cell? ⟨(ad.add (f * 4)).block, (ad.add (f * 4)).off + 1, none⟩ = some (.int .i64 l) ∧ wd.cell? ⟨(ad.add (f * 4)).block, (ad.add (f * 4)).off + 2, none⟩ = some (.int .i64 s) ∧ wd.cell? ⟨(ad.add (f * 4)).block, (ad.add (f * 4)).off + 3, none⟩ = some (.string tt)) := hide ⟨g0, g1, g2, f0, f1, f2, f3⟩
  refine till_begin (S := fun w' => w'.cell? ⟨G, 0, none⟩ = some (.slice b1 n1 d1) ∧ w'.cell? ⟨G, 1, none⟩ = some (.slice (some ad) n2 d2) ∧ w'.cell? ⟨G, 2, none⟩ = some (.slice b3 n3 d3) ∧ w'.cell? (ad.add (f * 4)) = some (.int .i64 p) ∧ w'.cell? ⟨(ad.add (f * 4)).block, (ad.add (f * 4)).off + 1, none⟩ = some (.int .i64 l) ∧ w'.cell? ⟨(ad.add (f * 4)).block, (ad.add (f * 4)).off + 2, none⟩ = some (.int .i64 s) ∧ w'.cell? ⟨(ad.add (f * 4)).block, (ad.add (f * 4)).off + 3, none⟩ = some (.string tt)) 9 (by kernel_rfl) ?_
  first | rw [hwd] | skip
  refine till_take 0 (v := .agg #[.slice b1 n1 d1, .slice (some ad) n2 d2, .slice b3 n3 d3]) (some 9) rfl rfl rfl (by kernel_rfl) (by kernel_rfl) (by kernel_rfl) (by kernel_rfl) (fun _ _ _ h => h) (Or.inl ⟨by rfl, fun u hu => by obtain ⟨k0, k1, k2, k3, k4, k5, k6⟩ := hu; go_simp⟩) (unhide HS0) ?_
  try simp only [Act.put, List.setIfInBounds_toArray, List.set_cons_zero, List.set_cons_succ]
  refine till_take 1 (v := .pointer (some ⟨G, 1, none⟩)) (some 10) rfl rfl rfl (by kernel_rfl) (by kernel_rfl) (by kernel_rfl) (by kernel_rfl) (fun _ _ _ h => h) (Or.inl ⟨by rfl, fun u hu => by obtain ⟨k0, k1, k2, k3, k4, k5, k6⟩ := hu; go_simp⟩) (unhide HS0) ?_
  try simp only [Act.put, List.setIfInBounds_toArray, List.set_cons_zero, List.set_cons_succ]
  refine till_take 2 (v := .slice (some ad) n2 d2) (some 11) rfl rfl rfl (by kernel_rfl) (by kernel_rfl) (by kernel_rfl) (by kernel_rfl) (fun _ _ _ h => h) (Or.inl ⟨by rfl, fun u hu => by obtain ⟨k0, k1, k2, k3, k4, k5, k6⟩ := hu; go_simp⟩) (unhide HS0) ?_
  try simp only [Act.put, List.setIfInBounds_toArray, List.set_cons_zero, List.set_cons_succ]
  refine till_take 3 (v := .int .i64 (f : Int)) (some 12) rfl rfl rfl (by kernel_rfl) (by kernel_rfl) (by kernel_rfl) (by kernel_rfl) (fun _ _ _ h => h) (Or.inl ⟨by rfl, fun u hu => by obtain ⟨k0, k1, k2, k3, k4, k5, k6⟩ := hu; go_simp⟩) (unhide HS0) ?_
  try simp only [Act.put, List.setIfInBounds_toArray, List.set_cons_zero, List.set_cons_succ]
  refine till_take 4 (v := .pointer (some (ad.add (f * 4)))) (some 13) rfl rfl rfl (by kernel_rfl) (by kernel_rfl) (by kernel_rfl) (by kernel_rfl) (fun _ _ _ h => h) (Or.inl ⟨by rfl, fun u hu => by obtain ⟨k0, k1, k2, k3, k4, k5, k6⟩ := hu; go_simp⟩) (unhide HS0) ?_
  try simp only [Act.put, List.setIfInBounds_toArray, List.set_cons_zero, List.set_cons_succ]
  refine till_take 5 (v := .agg #[.int .i64 p, .int .i64 l, .int .i64 s, .string tt]) (some 14) rfl rfl rfl (by kernel_rfl) (by kernel_rfl) (by kernel_rfl) (by kernel_rfl) (fun _ _ _ h => h) (Or.inl ⟨by rfl, fun u hu => by obtain ⟨k0, k1, k2, k3, k4, k5, k6⟩ := hu; go_simp⟩) (unhide HS0) ?_
  try simp only [Act.put, List.setIfInBounds_toArray, List.set_cons_zero, List.set_cons_succ]
  refine till_one 6 (by kernel_rfl) rfl (fun K hK => ?_)
  go_simp
  refine hK.out _ _ (Or.inr (unhide SK _ ((Below.refl _ _).alloc (Nat.le_refl _) _))) ?_
  clear hK K
  try simp only [Act.put, List.setIfInBounds_toArray, List.set_cons_zero, List.set_cons_succ]
  refine till_one 7 (by kernel_rfl) rfl (fun K hK => ?_)
  go_simp
  refine hK.out _ _ (Or.inr (unhide SK _ ((Below.refl _ _).alloc (Nat.le_refl _) _))) ?_
  clear hK K
  try simp only [Act.put, List.setIfInBounds_toArray, List.set_cons_zero, List.set_cons_succ]
  refine till_one 8 (by kernel_rfl) rfl (fun K hK => ?_)
  go_simp
  refine hK.out _ _ (Or.inr (unhide SK _ (((Below.refl _ _).alloc (Nat.le_refl _) _).alloc (by simp) _))) ?_
  clear hK K
  try simp only [Act.put, List.setIfInBounds_toArray, List.set_cons_zero, List.set_cons_succ]
  refine till_one 9 (by kernel_rfl) rfl (fun K hK => ?_)
  go_simp
  refine hK.out _ _ (Or.inl (by first | rfl | trivial)) ?_
  clear hK K
  try simp only [Act.put, List.setIfInBounds_toArray, List.set_cons_zero, List.set_cons_succ]
  refine till_done (by kernel_rfl) ?_ _
  obtain ⟨wb, hwb⟩ : ∃ wb, (wd.alloc (.map #[] 0)).alloc (.cells #[.slice b1 n1 d1, .slice (some ad) n2 d2, .slice b3 n3 d3, .int .i64 p, .int .i64 l, .int .i64 s, .string tt, .slice none 0 0, .slice none 0 0, .map (some (G + 2)), .slice none 0 0] 174) = wb := ⟨_, rfl⟩
  rw [hwb] at HBM ⊢
  obtain ⟨g, hg⟩ : ∃ g, G + 2 + 1 = g := ⟨_, rfl⟩
  simp only [hg]
  clear hwb hwd hw1 f0 f1 f2 f3 g0 g1 g2 SK HS0 hmm z1 zd
  clear f0 f1 f2 f3
  have hbod := (unhide HBM).bod
  rw [hg] at hbod
  have hTb := (unhide HM0).2.2.2.1.below (unhide HBM).below
  have C1 := hide (read_any ⟨b1, n1, d1, some ad, n2, d2, b3, n3, d3, none, 0, 0, none, 0, 0⟩ (p, l, s, tt) (.map (some (G + 2))) (.slice none 0 0) wb g hbod hTb htz)
  obtain ⟨R, hR⟩ : ∃ R, lookF m (p, l, s, tt) = R := ⟨_, rfl⟩
  have hR' := hR
  unfold lookF at hR'
  simp only [] at hR'
  obtain ⟨⟨ra, re⟩, hrd⟩ : ∃ r, rdF tt = r := ⟨_, rfl⟩
  have HR := hide (And.intro hR (And.intro hR' hrd))
  simp only [hrd] at C1
  have sb : wb.heap.size = G + 4 := by have := (unhide HBM).size; omega
  clear hR hR' hrd hbod hTb
  go_wp2_with fail
  refine (unhide C1).mono ?_
  rintro e w2 ⟨rfl, hcase⟩
  clear C1
  rcases hcase with ⟨hne, hb2⟩ | ⟨he0, al, cl, ap, cp, hok⟩
  · have HBU : Hid (Below w.heap.size w w2) := hide ((unhide HBM).below.trans (hb2.mono (unhide HBM).below.size))
    have HFLT : Hid (w2.heap[G + 1]? = some (.cells #[.int .i64 0, .int .i64 0, .int .i64 0] 83 (0, 0))) := hide ((hb2.block _ (by omega)).trans (unhide HBM).flt)
    have HNE := hide hne
    have qre : (re == 0) = false := by simpa using hne
    have HE : Hid ((lookF m (p, l, s, tt)).2 = (ra, re)) := hide (by
      have h1 := (unhide HR).2.1
      have h2 := (unhide HR).2.2
      unfold rdF at h2
      rw [(unhide HR).1, ← h1]
      split at h2
      · rename_i h3
        rw [if_pos h3]
        split at h2
        · rename_i h4
          rw [if_pos h4, ← h2]
        · cases h2
          exact absurd rfl hne
      · rename_i h3
        rw [if_neg h3, ← h2])
    clear hb2
    obtain ⟨q0, q1, q2⟩ := row_cell3 (unhide HFLT)
    have z0 := frozen_of_row w2 (G + 1) 0 _ _ (unhide HFLT)
    have z1' := frozen_of_row w2 (G + 1) 1 _ _ (unhide HFLT)
    have z2' := frozen_of_row w2 (G + 1) 2 _ _ (unhide HFLT)
    go_wp2_with fail
    exact bodyPost_ret (ret_tc (p := 5) (u := 4) (T := 83) rfl _ _ (G + 1) _ _ _ rfl (set3 (unhide HFLT) _ _ _) Tryz.underlying83 rfl size_flt) rfl (.inl ⟨by rw [unhide HE]; exact unhide HNE, by rw [unhide HE]; rfl, set3_below (unhide HBU) (by omega) _ _ _⟩)
  · subst he0
    have h1 := (unhide HR).2.2
    unfold rdF at h1
    have hls0 : (lsF tt).2.2.2 = 0 := by
      split at h1
      · assumption
      · cases h1
    rw [if_pos hls0] at h1
    have hlne : ¬ (lsF tt).1 = [] := by
      split at h1
      · cases h1
      · assumption
    rw [if_neg hlne] at h1
    cases h1
    obtain ⟨q1, q2, q3, q4, q5, q6⟩ := lsF_good hls0
    have hG4 : G < g := by omega
    have hBG : B ≤ G := by have := (unhide HM0).2.1; omega
    have HM2 : ∀ b, b < w.heap.size → w2.heap[b]? = w.heap[b]? := fun b hb => (hok.oth b (by omega) (by omega)).trans ((unhide HBM).below.block b hb)
    have BW2 : Below w.heap.size w w2 := ⟨hok.os.trans (unhide HBM).below.os, hok.tape.trans (unhide HBM).below.tape, hok.output.trans (unhide HBM).below.output, Nat.le_trans (unhide HBM).below.size hok.size, HM2⟩
    obtain ⟨x, hx⟩ : ∃ x : Bv, x = ⟨b1, n1, d1, some ad, n2, d2, b3, n3, d3, al, (lsF tt).1.length, cl, ap, (lsF tt).2.1.length, cp⟩ := ⟨_, rfl⟩
    have SB2 : SeeB w2 B g x m (p, l, s, tt) (lsF tt).1 (lsF tt).2.1 (.map (some (G + 2))) (.slice none 0 0) := by
      subst hx
      exact ⟨hok.box, (unhide HM0).2.2.2.2.1, (unhide HM0).2.2.2.2.2.1, (unhide HM0).1.later (BW2.mono (unhide HM0).2.1), Nat.le_trans (unhide HM0).2.1 BW2.size, (unhide HM0).2.2.2.1.below BW2, rfl, rfl, by simp only []; omega, own_rdN hok.ins, own_rdI hok.pls, q4⟩
    have hal : ∀ a, x.al = some a → G + 4 ≤ a.block := fun a ha => by
      subst hx
      simp only [] at ha
      have := (hok.ins.lt a.block (by rw [ha]; rfl)).1
      omega
    have hap : ∀ a, x.ap = some a → G + 4 ≤ a.block := fun a ha => by
      subst hx
      simp only [] at ha
      have := (hok.pls.lt a.block (by rw [ha]; rfl)).1
      omega
    have hmp : w2.heap[G + 2]? = some (.map #[] 0) := (hok.oth _ (by omega) (by omega)).trans (unhide HBM).map
    have hfl2 : w2.heap[G + 1]? = some (.cells #[.int .i64 0, .int .i64 0, .int .i64 0] 83 (0, 0)) := (hok.oth _ (by omega) (by omega)).trans (unhide HBM).flt
    have hs2 : G + 4 ≤ w2.heap.size := by have := hok.size; omega
    have CO := hide (operands_any SB2 q1 q3)
    obtain ⟨⟨oa, oe⟩, hoo⟩ : ∃ o, opsE m l (lsF tt).2.1 (lsF tt).1 (lsF tt).2.1 = o := ⟨_, rfl⟩
    simp only [hoo] at CO
    have HOK := hide (And.intro SB2 (And.intro BW2 (And.intro hal (And.intro hap (And.intro hmp (And.intro hfl2 hs2))))))
    have HLS := hide (And.intro hls0 (And.intro hlne hoo))
    clear hok SB2 BW2 hal hap hmp hfl2 hs2 HM2 hls0 hlne q1 q2 q3 q4 q5 q6 hx hoo
    go_wp2_with fail
    refine (unhide CO).mono ?_
    rintro e w3 ⟨rfl, b3⟩
    have H3 := hide b3
    clear b3 CO
    by_cases hoe : oe = 0
    · subst hoe
      have hfit := fitB_of (m := m) (fn := (p, l, s, tt)) (unhide HM0).2.2.2.2.2.2.2 (unhide HM0).1.cbl (unhide HM0).2.2.2.2.2.2.1 (unhide HLS).1 (unhide HLS).2.1 (by simp only []; rw [(unhide HLS).2.2])
      have hsz3 := (unhide H3).size
      have hs2' := (unhide HOK).2.2.2.2.2.2
      have CX : Cxt B g (G + 2) x m (p, l, s, tt) (lsF tt).1 (lsF tt).2.1 w3 (.slice none 0 0) := ⟨(unhide HOK).1.later (unhide H3), by omega, by omega, (unhide HM0).2.2.1, by omega, by omega, by omega, fun a ha => by have := (unhide HOK).2.2.1 a ha; omega, fun a ha => by have := (unhide HOK).2.2.2.1 a ha; omega, by simp only []; omega⟩
      have ST : Stt w3.heap.size g (G + 2) x (p, l, s, tt) w3 w3 ([], []) (.slice none 0 0) := ⟨Chg.refl _ _ _ _, CX.see.box, Hts.empty (((unhide H3).block _ (by omega)).trans (unhide HOK).2.2.2.2.1), .inl ⟨rfl, rfl⟩⟩
      have CW := hide (walk_any CX ST (boF m (p, l, s, tt)) rfl hfit (lsF_some (unhide HLS).2.1))
      obtain ⟨⟨rh, rat, rer⟩, hW⟩ : ∃ r, wlk (boF m (p, l, s, tt)) (lsF tt).2.1.length 0 ([(0, 0)], [0]) = r := ⟨_, rfl⟩
      simp only [hW] at CW
      have HE : Hid (lookF m (p, l, s, tt) = (rh, rat, rer)) := hide (by
        rw [(unhide HR).1, ← (unhide HR).2.1, if_pos (unhide HLS).1, if_neg (unhide HLS).2.1, (unhide HLS).2.2, if_pos rfl]
        exact hW)
      have HCX := hide CX
      clear hfit CX ST hW
      go_wp2_with fail
      refine (unhide CW).mono ?_
      rintro e w4 ⟨wv4, W4, rfl, S4⟩
      have HS4 := hide S4
      have BW4 : Below w.heap.size w w4 := by
        have c := S4.chg
        have b1 := (unhide HOK).2.1
        have b2 := unhide H3
        exact ⟨c.os.trans (b2.os.trans b1.os), c.tape.trans (b2.tape.trans b1.tape), c.output.trans (b2.output.trans b1.output), by have := c.size; have := b1.size; omega, fun b hb => by rw [c.oth b (by omega) (by omega) (by omega), b2.block b (by omega), b1.block b hb]⟩
      have HBU := hide BW4
      have HFLT : Hid (w4.heap[G + 1]? = some (.cells #[.int .i64 0, .int .i64 0, .int .i64 0] 83 (0, 0))) := hide (by
        rw [S4.chg.oth (G + 1) (by omega) (by omega) (by omega), (unhide H3).block _ (by omega)]
        exact (unhide HOK).2.2.2.2.2.1)
      clear S4 CW BW4
      by_cases hre : rer = 0
      · subst hre
        obtain ⟨q0, q1, q2⟩ := row_cell3 (unhide HFLT)
        have z0 := frozen_of_row w4 (G + 1) 0 _ _ (unhide HFLT)
        have z1' := frozen_of_row w4 (G + 1) 1 _ _ (unhide HFLT)
        have z2' := frozen_of_row w4 (G + 1) 2 _ _ (unhide HFLT)
        go_wp2_with fail
        have hS5 := (unhide HCX).at (unhide HS4)
        have hoth : ∀ b, b ≠ G + 1 → (((w4.setCell ⟨G + 1, 0, none⟩ (.int .i64 0)).setCell ⟨G + 1, 1, none⟩ (.int .i64 0)).setCell ⟨G + 1, 2, none⟩ (.int .i64 0)).heap[b]? = w4.heap[b]? := fun b hb => by
          rw [heap_setCell_other _ _ _ _ hb, heap_setCell_other _ _ _ _ hb, heap_setCell_other _ _ _ _ hb]
        refine bodyPost_ret (ret_tc (p := 5) (u := 4) (T := 83) rfl _ _ (G + 1) _ _ _ rfl (set3 (unhide HFLT) _ _ _) Tryz.underlying83 rfl size_flt) rfl (.inr ⟨by rw [unhide HE], g, G + 2, x, wv4, rfl, set3_below (unhide HBU) (by omega) _ _ _, ?_, ?_⟩)
        · exact hS5.other (set3_below (Below.refl B w4) (by omega) _ _ _) hoth (by omega) (unhide HM0).2.2.1 (fun a ha => by have := (unhide HOK).2.2.1 a ha; omega) (fun a ha => by have := (unhide HOK).2.2.2.1 a ha; omega)
        · rw [unhide HE]
          exact (unhide HS4).map.later (hoth _ (by omega))
      · have HNE : Hid (¬ (rat, rer).2 = 0) := hide hre
        have qre : (rer == 0) = false := by simpa using hre
        have HE2 := HE
        have HE : Hid ((lookF m (p, l, s, tt)).2 = (rat, rer)) := hide (by rw [unhide HE2])
        obtain ⟨q0, q1, q2⟩ := row_cell3 (unhide HFLT)
        have z0 := frozen_of_row w4 (G + 1) 0 _ _ (unhide HFLT)
        have z1' := frozen_of_row w4 (G + 1) 1 _ _ (unhide HFLT)
        have z2' := frozen_of_row w4 (G + 1) 2 _ _ (unhide HFLT)
        go_wp2_with fail
        exact bodyPost_ret (ret_tc (p := 5) (u := 4) (T := 83) rfl _ _ (G + 1) _ _ _ rfl (set3 (unhide HFLT) _ _ _) Tryz.underlying83 rfl size_flt) rfl (.inl ⟨by rw [unhide HE]; exact unhide HNE, by rw [unhide HE]; rfl, set3_below (unhide HBU) (by omega) _ _ _⟩)
    · have HBU : Hid (Below w.heap.size w w3) := hide ((unhide HOK).2.1.trans ((unhide H3).mono (unhide HOK).2.1.size))
      have HFLT : Hid (w3.heap[G + 1]? = some (.cells #[.int .i64 0, .int .i64 0, .int .i64 0] 83 (0, 0))) := hide (((unhide H3).block _ (by have := (unhide HOK).2.2.2.2.2.2; omega)).trans (unhide HOK).2.2.2.2.2.1)
      have HNE : Hid (¬ (oa, oe).2 = 0) := hide hoe
      have qre : (oe == 0) = false := by simpa using hoe
      have HE : Hid ((lookF m (p, l, s, tt)).2 = (oa, oe)) := hide (by
        rw [(unhide HR).1, ← (unhide HR).2.1, if_pos (unhide HLS).1, if_neg (unhide HLS).2.1, (unhide HLS).2.2, if_neg hoe])
      obtain ⟨q0, q1, q2⟩ := row_cell3 (unhide HFLT)
      have z0 := frozen_of_row w3 (G + 1) 0 _ _ (unhide HFLT)
      have z1' := frozen_of_row w3 (G + 1) 1 _ _ (unhide HFLT)
      have z2' := frozen_of_row w3 (G + 1) 2 _ _ (unhide HFLT)
      go_wp2_with fail
      exact bodyPost_ret (ret_tc (p := 5) (u := 4) (T := 83) rfl _ _ (G + 1) _ _ _ rfl (set3 (unhide HFLT) _ _ _) Tryz.underlying83 rfl size_flt) rfl (.inl ⟨by rw [unhide HE]; exact unhide HNE, by rw [unhide HE]; rfl, set3_below (unhide HBU) (by omega) _ _ _⟩)
end Go.Proofs.YtmnbfcpkaglniaaGreatDoor
