/-
  The walk of Decode of a module (layer 9); no conditions but the form's own reach.
-/
import Derived.Test.YtfdnhpmldnmncaaR45
namespace Go.Proofs.Ytfdnhpmldnmncaa
open Go.RowKit

/-- three results, the first of which lies in memory -/
theorem ret_cttM {P : Program} {fn : Func} {p u v : Tmp} {T : TypeId} (h : fn.results = #[.cell p T, .tmp u, .tmp v]) (tmps : Array Value) (w : World) (g : Nat) (c : Array Value) (d : TypeDesc) (t : TypeId)
    (hp : tmps.getD p undef = .pointer (some ⟨g, 0, none⟩)) (hb : w.heap[g]? = some (.cells c t (0, 0))) (hu : P.underlying T = some d) (hd : (match d with | .struct _ | .array _ _ => true | _ => false) = true) (hi : (P.info? T).map (·.size) = some c.size) :
    (results fn tmps).run P w = .ok (.tuple #[.agg c, tmps.getD u undef, tmps.getD v undef]) w := by
  have hl := run_loadVar_row (P := P) w g t T c (0, 0) _ hb hu hd hi
  have hp' : tmps[p]?.getD undef = .pointer (some ⟨g, 0, none⟩) := by simpa using hp
  simp [results, h, hp', asAddr, Result.andThen, hl]

theorem size_md : (Try.prog.info? 28).map (·.size) = some 3 := by kernel_rfl

theorem flatk_at {k : Nat} : ∀ (rs : List (List Value)), (∀ r ∈ rs, r.length = k) → ∀ (i : Nat) (r : List Value) (j : Nat) (v : Value), rs[i]? = some r → r[j]? = some v → rs.flatten[i * k + j]? = some v
  | [], _, i, r, j, v, h, _ => by simp at h
  | x :: rs, hk, i, r, j, v, h, hv => by
    have hx := hk x List.mem_cons_self
    cases i with
    | zero =>
      simp at h
      subst h
      rw [List.flatten_cons, Nat.zero_mul, Nat.zero_add, List.getElem?_append_left (List.getElem?_eq_some_iff.1 hv).1]
      exact hv
    | succ i =>
      rw [List.flatten_cons, List.getElem?_append_right (by rw [hx, Nat.succ_mul]; omega), hx, show (i + 1) * k + j - k = i * k + j by rw [Nat.succ_mul]; omega]
      exact flatk_at rs (fun y hy => hk y (List.mem_cons_of_mem _ hy)) i r j v (by simpa using h) hv

theorem add_add (b i j : Nat) : ((⟨b, 0, none⟩ : Addr).add i).add j = (⟨b, 0, none⟩ : Addr).add (i + j) := by
  unfold Addr.add
  by_cases h0 : i = 0
  · by_cases h1 : j = 0
    · simp [h0, h1]
    · simp [h0, h1]
  · by_cases h1 : j = 0
    · simp [h0, h1]
    · simp [h0, h1]

theorem isT_of_own {w : World} {base k : Nat} {e : TypeId} {v : Value} {rs : List (List Value)} (h : w.ownsRow base e k v rs.length rs.flatten) (hk : ∀ r ∈ rs, r.length = k) (hl : rs.length ≤ 140737488351232) :
    ∃ al cl, v = .slice al rs.length cl ∧ IsT w (fun b => base ≤ b ∧ b < w.heap.size) k rs al cl := by
  obtain ⟨al, cl, hv, n1, n2, n3, n4⟩ := slice_form h
  refine ⟨al, cl, hv, n1, n2, hl, fun a ha i r hr => ?_⟩
  obtain ⟨h1, h2⟩ := n4 a ha
  refine ⟨h.lt _ h1, fun j u hu => ?_⟩
  rw [h2, add_add]
  exact h.cells h1 (i * k + j) u (flatk_at rs hk i r j u hr hu)

theorem isC_of_own {w : World} {base : Nat} {e : TypeId} {C F X : Value} {cs : List Vl} {V : Nat → List Value} (h : w.ownsRow base e 5 C cs.length (flat V cs.length)) (hr : ∀ c, c < cs.length → (V c).length = 5) (hl : cs.length ≤ 140737488351232) (el : ∀ c y, cs[c]? = some y → IsQ w (FreeM base w.heap.size C F X) y (.agg (V c).toArray)) :
    ∃ al cl, C = .slice al cs.length cl ∧ IsC w (fun b => base ≤ b ∧ b < w.heap.size) cs al cl := by
  obtain ⟨al, cl, hv, n1, n2, n3, n4⟩ := slice_form h
  refine ⟨al, cl, hv, IsP.of (V := V) ⟨by omega, by omega, by decide, n1, fun _ => ⟨rfl, rfl⟩, n2, Nat.le_refl _, hl, by simp, by simp, ?_, hr, (fun a h => by cases h), (fun t h => by cases h)⟩ (fun c y hy => (el c y hy).1.weak (fun b hP => ⟨hP.1, hP.2.1⟩))⟩
  intro a ha i hi
  obtain ⟨h1, h2⟩ := n4 a ha
  refine ⟨h.lt _ h1, fun j u hu => ?_⟩
  rw [h2, add_add]
  exact h.cells h1 (i * 5 + j) u (flat_at V cs.length hr i hi j u hu)

/-- a row that is someone's own -/
def RowP (w : World) (P : Nat → Prop) (e : TypeId) (size : Nat) (v : Value) (n : Nat) : Prop :=
  (v = .slice none 0 0 ∧ n = 0) ∨ ∃ b cap cs, v = .slice (some ⟨b, 0, none⟩) n cap ∧ P b ∧ w.heap[b]? = some (.cells cs e (0, 0)) ∧ cs.size = cap * size ∧ n ≤ cap ∧ cap ≤ maxLen
theorem RowP.to {w w' : World} {P Q : Nat → Prop} (hw : ∀ b, P b → w'.heap[b]? = w.heap[b]?) (hP : ∀ b, P b → Q b) {e : TypeId} {size : Nat} {v : Value} {n : Nat} (h : RowP w P e size v n) : RowP w' Q e size v n := by
  rcases h with h | ⟨b, cap, cs, h1, h2, h3, h4⟩
  · exact Or.inl h
  · exact Or.inr ⟨b, cap, cs, h1, hP b h2, (hw b h2).trans h3, h4⟩
theorem RowP.row {w : World} {P : Nat → Prop} {lo : Nat} {e : TypeId} {size : Nat} {v : Value} {n : Nat} (h : RowP w P e size v n) : Row w P lo e size v n := by
  rcases h with h | ⟨b, cap, cs, h1, h2, h3⟩
  · exact Or.inl h
  · exact Or.inr ⟨b, cap, cs, h1, Or.inl h2, h3⟩
theorem rowP_of_own {w : World} {base size n : Nat} {e : TypeId} {v : Value} {xs : List Value} (h : w.ownsRow base e size v n xs) : RowP w (fun b => base ≤ b ∧ b < w.heap.size) e size v n := by
  rcases h.2 with ⟨e1, hn⟩ | ⟨g, cap, cur, e1, hb, hg, hnc, hcm, hsz, htk⟩
  · exact Or.inl ⟨e1, hn⟩
  · exact Or.inr ⟨g, cap, cur, e1, ⟨hb, lt_of_row hg⟩, hg, hsz, hnc, hcm⟩

/-- a module's lists are its owner's -/
def OwnM (w : World) (P : Nat → Prop) (m : Md) (a1 : Option Addr) (c1 : Nat) (a2 : Option Addr) (c2 : Nat) (a3 : Option Addr) (c3 : Nat) : Prop :=
  (∃ r, Ty w P r (.agg #[.int .i64 4, .int .i64 0, .string ⟨#[]⟩, .slice a1 m.cs.length c1, .slice none 0 0])) ∧ RowP w P 53 4 (.slice a2 m.fs.length c2) m.fs.length ∧ RowP w P 55 2 (.slice a3 m.xs.length c3) m.xs.length
theorem OwnM.to {w w' : World} {P Q : Nat → Prop} (hw : ∀ b, P b → w'.heap[b]? = w.heap[b]?) (hP : ∀ b, P b → Q b) {m : Md} {a1 a2 a3 : Option Addr} {c1 c2 c3 : Nat} (h : OwnM w P m a1 c1 a2 c2 a3 c3) : OwnM w' Q m a1 c1 a2 c2 a3 c3 := by
  obtain ⟨⟨r, h1⟩, h2, h3⟩ := h
  exact ⟨⟨r, Ty.to hw hP _ _ h1⟩, h2.to hw hP, h3.to hw hP⟩

theorem tyC_of_own {w : World} {base : Nat} {C F X : Value} {cs : List Vl} {V : Nat → List Value} (h : w.ownsRow base 51 5 C cs.length (flat V cs.length)) (hr : ∀ c, c < cs.length → (V c).length = 5) (hbl : cs.length ≤ 1000000) (el : ∀ c y, cs[c]? = some y → IsQ w (FreeM base w.heap.size C F X) y (.agg (V c).toArray)) {al : Option Addr} {cl : Nat} (hv : C = .slice al cs.length cl) :
    Ty w (fun b => base ≤ b ∧ b < w.heap.size) (depL cs + 1) (.agg #[.int .i64 4, .int .i64 0, .string ⟨#[]⟩, .slice al cs.length cl, .slice none 0 0]) := by
  have hel := fun c y (hy : cs[c]? = some y) => (el c y hy).weak (Q := fun b => base ≤ b ∧ b < w.heap.size) (fun b hP => ⟨hP.1, hP.2.1⟩)
  refine ⟨4, 0, ⟨#[]⟩, al, cs.length, cl, none, 0, 0, rfl, ?_, Or.inl ⟨rfl, rfl, rfl⟩⟩
  rcases h.2 with ⟨e, hn⟩ | ⟨g, cap, cur, e, hb, hg, hnc, hcm, hsz, htk⟩
  · rw [hv] at e
    simp only [Value.slice.injEq] at e
    exact Or.inl e
  · rw [hv] at e
    simp only [Value.slice.injEq, true_and] at e
    obtain ⟨rfl, rfl⟩ := e
    refine Or.inr ⟨g, cur, rfl, ⟨hb, lt_of_row hg⟩, hg, hsz, hnc, hcm, hbl, fun i hi => ?_⟩
    obtain ⟨y, hy⟩ : ∃ y, cs[i]? = some y := ⟨_, List.getElem?_eq_getElem hi⟩
    have h5 := hr i hi
    have hc : ∀ j v, (V i)[j]? = some v → cur[i * 5 + j]? = some v := fun j v hv => by
      have h1 := flat_at V cs.length hr i hi j v hv
      rw [← htk, List.getElem?_take] at h1
      split at h1
      · simpa using h1
      · cases h1
    have ht := (hel i y hy).2.le (dep_le hy)
    match hV : V i, h5 with
    | [y0, y1, y2, y3, y4], _ =>
      rw [hV] at hc ht
      exact ⟨y0, y1, y2, y3, y4, ⟨by simpa using hc 0 y0 rfl, hc 1 y1 rfl, hc 2 y2 rfl, hc 3 y3 rfl, hc 4 y4 rfl⟩, ht⟩

theorem RdM.made {w0 w : World} {I : Nat → Obj → Prop} {gr : Nat} {vb vy : Value} {a : Int} {C F X : Value} {m : Md} {V : Nat → List Value} (h : RdM w0 I w gr vb vy a C F X m V) (hf : formedB m = true) :
    ∃ a1 c1 a2 c2 a3 c3, C = .slice a1 m.cs.length c1 ∧ F = .slice a2 m.fs.length c2 ∧ X = .slice a3 m.xs.length c3 ∧ IsM w (fun b => gr + 1 ≤ b ∧ b < w.heap.size) m a1 c1 a2 c2 a3 c3 ∧ OwnM w (fun b => gr + 1 ≤ b ∧ b < w.heap.size) m a1 c1 a2 c2 a3 c3 := by
  obtain ⟨p1, p2, p3, p4, p5, p6⟩ := formed_parts hf
  obtain ⟨a1, c1, e1, i1⟩ := isC_of_own h.ownC h.row (by omega) h.el
  have o2 : w.ownsRow (gr + 1) 53 4 F (m.fs.map fnV).length (m.fs.map fnV).flatten := by rw [List.length_map, ← List.flatMap_def]; exact h.ownF
  have o3 : w.ownsRow (gr + 1) 55 2 X (m.xs.map exV).length (m.xs.map exV).flatten := by rw [List.length_map, ← List.flatMap_def]; exact h.ownX
  obtain ⟨a2, c2, e2, i2⟩ := isT_of_own o2 (fun r hr => by obtain ⟨f, _, rfl⟩ := List.mem_map.1 hr; rfl) (by rw [List.length_map]; omega)
  obtain ⟨a3, c3, e3, i3⟩ := isT_of_own o3 (fun r hr => by obtain ⟨f, _, rfl⟩ := List.mem_map.1 hr; rfl) (by rw [List.length_map]; omega)
  rw [List.length_map] at e2 e3
  refine ⟨a1, c1, a2, c2, a3, c3, e1, e2, e3, ⟨i1, i2, i3, fun f hf => ?_, fun x hx => by have := (p6 x hx).1; omega⟩, ⟨_, tyC_of_own h.ownC h.row (by omega) h.el e1⟩, by rw [← e2]; exact rowP_of_own h.ownF, by rw [← e3]; exact rowP_of_own h.ownX⟩
  obtain ⟨p, l, s, t⟩ := f
  have := (fn_parts (p5 _ hf)).2.2.2.2.2.2
  dsimp only
  omega

theorem three_set (w : World) (g : Nat) (T : TypeId) (c0 c1 c2 x0 x1 x2 : Value) (h : w.heap[g]? = some (.cells #[c0, c1, c2] T (0, 0))) :
    (((w.setCell ⟨g, 0, none⟩ x0).setCell ⟨g, 1, none⟩ x1).setCell ⟨g, 2, none⟩ x2).heap[g]? = some (.cells #[x0, x1, x2] T (0, 0)) := by
  have h1 := heap_setCell_same w g 0 _ T x0 h
  have h2 := heap_setCell_same _ g 1 _ T x1 h1
  have h3 := heap_setCell_same _ g 2 _ T x2 h2
  rw [h3]
  rfl
theorem three_other (w : World) (g q : Nat) (x0 x1 x2 : Value) (h : q ≠ g) : (((w.setCell ⟨g, 0, none⟩ x0).setCell ⟨g, 1, none⟩ x1).setCell ⟨g, 2, none⟩ x2).heap[q]? = w.heap[q]? := by
  rw [heap_setCell_other _ _ _ _ h, heap_setCell_other _ _ _ _ h, heap_setCell_other _ _ _ _ h]
theorem three_below {B g : Nat} {a w : World} (h : Below B a w) (hg : B ≤ g) (x0 x1 x2 : Value) : Below B a (((w.setCell ⟨g, 0, none⟩ x0).setCell ⟨g, 1, none⟩ x1).setCell ⟨g, 2, none⟩ x2) :=
  ((h.setCell (p := ⟨g, 0, none⟩) hg x0).setCell (p := ⟨g, 1, none⟩) hg x1).setCell (p := ⟨g, 2, none⟩) hg x2

/-- what Decode answers -/
def ResD (w : World) (r : Except (Int × Int) Md) (e : Ending) (w' : World) : Prop :=
  match r with
  | .error p => e = .returned (.tuple #[.agg #[.slice none 0 0, .slice none 0 0, .slice none 0 0], .int .i64 p.2, .int .i64 p.1]) ∧ Below w.heap.size w w'
  | .ok m => ∃ (a1 a2 a3 : Option Addr) (c1 c2 c3 : Nat), e = .returned (.tuple #[.agg #[.slice a1 m.cs.length c1, .slice a2 m.fs.length c2, .slice a3 m.xs.length c3], .int .i64 0, .int .i64 0]) ∧ IsM w' (fun b => w.heap.size ≤ b ∧ b < w'.heap.size) m a1 c1 a2 c2 a3 c3 ∧ OwnM w' (fun b => w.heap.size ≤ b ∧ b < w'.heap.size) m a1 c1 a2 c2 a3 c3 ∧ Below w.heap.size w w'

theorem start_rd (w0 : World) (ao : Option Addr) (len cap : Nat) : RdM w0 (fun _ _ => False) (w0.alloc (.cells #[.slice ao len cap, .slice none 0 0, .int .i64 0, .slice none 0 0, .slice none 0 0, .slice none 0 0] 40)) w0.heap.size (.slice ao len cap) (.slice none 0 0) 0 (.slice none 0 0) (.slice none 0 0) (.slice none 0 0) ⟨[], [], []⟩ (fun _ => []) where
  box := heap_alloc_new w0 _
  old := (Below.refl _ _).alloc (Nat.le_refl _) _
  ownC := World.ownsRow_nil _ _ _ _
  ownF := World.ownsRow_nil _ _ _ _
  ownX := World.ownsRow_nil _ _ _ _
  row := fun c hc => by simp at hc
  el := fun c y hy => by simp at hy
  side := fun b c h => h.elim

set_option maxRecDepth 100000 in
set_option maxHeartbeats 2000000 in
theorem decodeM_any (ao : Option Addr) (len cap : Nat) (zs : List Int) (w : World) (hz : Row8 w ao len cap zs) (hm : cap ≤ maxLen) :
    Calls Try.prog 7 #[.slice ao len cap] w fun e w' => ResD w (decM zs) e w' := by
  have hl := hz.length
  obtain ⟨g, hg⟩ : ∃ g, w.heap.size = g := ⟨_, rfl⟩
  have BX := BoxN.mk' w #[.slice none 0 0, .slice none 0 0, .slice none 0 0] 28
  obtain ⟨w1, hw1⟩ : ∃ w1, w.alloc (.cells #[.slice none 0 0, .slice none 0 0, .slice none 0 0] 28) = w1 := ⟨_, rfl⟩
  rw [hw1] at BX
  have HX : Hid (w1.heap[g]? = some (.cells #[.slice none 0 0, .slice none 0 0, .slice none 0 0] 28 (0, 0)) ∧ w1.heap.size = g + 1 ∧ Below w.heap.size w w1) := hide ⟨by rw [← hg]; exact BX.row, by rw [← hg]; exact BX.size, BX.below⟩
  have HZ1 := hide (hz.later BX.below)
  have HG := hide hg
  have HSM := hide hz.small
  clear BX hz
  by_cases hbig : 65536 < len
  · have hD : decM zs = .error (92, 0) := by unfold decM; rw [if_pos (by omega)]
    rw [hD]
    have i1 : (65536 : Int) < (len : Int) := by omega
    obtain ⟨c0, c1, c2⟩ := row_cell3 (unhide HX).1
    have f0 := frozen_of_row w1 g 0 _ _ (unhide HX).1
    have f1 := frozen_of_row w1 g 1 _ _ (unhide HX).1
    have f2 := frozen_of_row w1 g 2 _ _ (unhide HX).1
    clear hD
    go_enter Try.func7, Try.ntmps7
    go_wp2_with fail
    refine bodyPost_ret (ret_cttM (p := 2) (u := 3) (v := 4) (T := 28) rfl _ _ g _ _ _ rfl (three_set w1 g _ _ _ _ _ _ _ (unhide HX).1) Try.underlying28 rfl size_md) rfl ?_
    exact ⟨rfl, three_below (unhide HX).2.2 (by have := unhide HG; omega) _ _ _⟩
  have i1 : ¬ (65536 : Int) < (len : Int) := by omega
  obtain ⟨gr, hgr⟩ : ∃ gr, w1.heap.size = gr := ⟨_, rfl⟩
  have S0 := start_rd w1 ao len cap
  obtain ⟨w2, hw2⟩ : ∃ w2, w1.alloc (.cells #[.slice ao len cap, .slice none 0 0, .int .i64 0, .slice none 0 0, .slice none 0 0, .slice none 0 0] 40) = w2 := ⟨_, rfl⟩
  rw [hw2, hgr] at S0
  have CM := hide (module_any w1 _ gr ao len cap _ zs w2 S0 (unhide HZ1) (by omega) hm (by omega))
  have hD : decM zs = if zs.take 4 ≠ headM then .error (91, 0) else decB zs (rdAllM zs 3 0 ⟨[], [], []⟩ 4) := by
    unfold decM
    rw [if_neg (by omega)]
    rfl
  rw [← hD] at CM
  have HGR : Hid (gr = g + 1) := hide (by have := (unhide HX).2.1; omega)
  have HS1 := hide hgr
  have HW2 := hide hw2
  clear hD S0 hgr hw2
  cases hR : decM zs with
  | error p =>
    rw [hR] at CM
    obtain ⟨pc, pp⟩ := p
    have kne : ¬ pc = 0 := (decM_bad (unhide HSM) hR).2
    clear hR
    go_enter Try.func7, Try.ntmps7
    go_wp2_with fail
    rw [unhide HW2, unhide HS1]
    refine (unhide CM).mono ?_
    rintro e3 u3 ⟨rfl, vy, C, F, X, m, V, R3⟩
    have H3 := hide R3
    have hb3 : u3.heap[g]? = some (.cells #[.slice none 0 0, .slice none 0 0, .slice none 0 0] 28 (0, 0)) := (R3.old.block g (by have := unhide HGR; omega)).trans (unhide HX).1
    have HB3 := hide hb3
    obtain ⟨c0, c1, c2⟩ := row_cell3 hb3
    have f0 := frozen_of_row u3 g 0 _ _ hb3
    have f1 := frozen_of_row u3 g 1 _ _ hb3
    have f2 := frozen_of_row u3 g 2 _ _ hb3
    obtain ⟨d0, d1, d2, d3, d4, d5⟩ := row_cells6 R3.box
    clear R3 hb3 CM hw1
    dsimp only
    go_upto_region 6 with fail
    have hS9 : (((u3.setCell ⟨g, 0, none⟩ (.slice none 0 0)).setCell ⟨g, 1, none⟩ (.slice none 0 0)).setCell ⟨g, 2, none⟩ (.slice none 0 0)).cell? ⟨gr, 2, none⟩ = some (.int .i64 pp) := (World.cell?_of_block (three_other u3 g gr _ _ _ (by have := unhide HGR; omega))).trans d2
    go_region_held3 (fun u => u.cell? ⟨gr, 2, none⟩ = some (.int .i64 pp)) (first | assumption | exact d2 | exact hS9) (fail)
    go_wp2_with fail
    refine bodyPost_ret (ret_cttM (p := 2) (u := 3) (v := 4) (T := 28) rfl _ _ g _ _ _ rfl (three_set u3 g _ _ _ _ _ _ _ (unhide HB3)) Try.underlying28 rfl size_md) rfl ?_
    have hB := three_below (B := w.heap.size) (g := g) ((unhide HX).2.2.trans ((unhide H3).old.mono (by have := unhide HG; have := unhide HGR; omega))) (by have := unhide HG; omega) (.slice none 0 0) (.slice none 0 0) (.slice none 0 0)
    exact ⟨rfl, hB.os, hB.tape, hB.output, hB.size, hB.block⟩
  | ok m =>
    rw [hR] at CM
    have hf : formedB m = true := by
      have := (decM_sound (unhide HSM) hR).1
      unfold rightM at this
      rw [Bool.and_eq_true] at this
      exact this.1
    clear hR
    go_enter Try.func7, Try.ntmps7
    go_wp2_with fail
    rw [unhide HW2, unhide HS1]
    refine (unhide CM).mono ?_
    rintro e3 u3 ⟨rfl, vy, a, C, F, X, V, R3⟩
    obtain ⟨a1, d1, a2, d2, a3, d3, rfl, rfl, rfl, M3, O3⟩ := R3.made hf
    have H3 := hide R3
    have HM := hide M3
    have HO := hide O3
    have hb3 : u3.heap[g]? = some (.cells #[.slice none 0 0, .slice none 0 0, .slice none 0 0] 28 (0, 0)) := (R3.old.block g (by have := unhide HGR; omega)).trans (unhide HX).1
    have HB3 := hide hb3
    obtain ⟨c0, c1, c2⟩ := row_cell3 hb3
    have f0 := frozen_of_row u3 g 0 _ _ hb3
    have f1 := frozen_of_row u3 g 1 _ _ hb3
    have f2 := frozen_of_row u3 g 2 _ _ hb3
    obtain ⟨e0, e1, e2, e3, e4, e5⟩ := row_cells6 R3.box
    obtain ⟨n1, hn1⟩ : ∃ n, m.cs.length = n := ⟨_, rfl⟩
    obtain ⟨n2, hn2⟩ : ∃ n, m.fs.length = n := ⟨_, rfl⟩
    obtain ⟨n3, hn3⟩ : ∃ n, m.xs.length = n := ⟨_, rfl⟩
    rw [hn1] at e3
    rw [hn2] at e4
    rw [hn3] at e5
    have HN1 := hide hn1
    have HN2 := hide hn2
    have HN3 := hide hn3
    clear R3 M3 O3 hb3 CM hw1 hf hn1 hn2 hn3
    dsimp only
    go_wp2_with fail
    refine bodyPost_ret (ret_cttM (p := 2) (u := 3) (v := 4) (T := 28) rfl _ _ g _ _ _ rfl (three_set u3 g _ _ _ _ _ _ _ (unhide HB3)) Try.underlying28 rfl size_md) rfl ?_
    have hP9 : ∀ b, (gr + 1 ≤ b ∧ b < u3.heap.size) → w.heap.size ≤ b ∧ b < (((u3.setCell ⟨g, 0, none⟩ (.slice a1 n1 d1)).setCell ⟨g, 1, none⟩ (.slice a2 n2 d2)).setCell ⟨g, 2, none⟩ (.slice a3 n3 d3)).heap.size := fun b hb => by
      simp only [World.size_setCell]
      have := unhide HG; have := unhide HGR; omega
    exact ⟨a1, a2, a3, d1, d2, d3, by rw [unhide HN1, unhide HN2, unhide HN3]; rfl, (unhide HM).to (fun b hb => three_other u3 g b _ _ _ (by have := unhide HGR; omega)) hP9, (unhide HO).to (fun b hb => three_other u3 g b _ _ _ (by have := unhide HGR; omega)) hP9, three_below ((unhide HX).2.2.trans ((unhide H3).old.mono (by have := unhide HG; have := unhide HGR; omega))) (by have := unhide HG; omega) _ _ _⟩
end Go.Proofs.Ytfdnhpmldnmncaa
